/- Texts of my own, laid together. -/
import Derived.Test.YtcaehfkfohianaaGreatPy14
import Derived.Test.YtcaehfkfohianaaGreatPy12
import Derived.Deep.RegionHeld3
set_option linter.all false
namespace Go.Proofs.YtcaehfkfohianaaGreat
open Go.RowKit
theorem apart_new {W W' : World} {B z z' n n' : Nat} {e e' : TypeId} {v u : Value} {xs xs' : List Value} (h : W.ownsRow B e z v n xs) (k : W'.ownsRow W.heap.size e' z' u n' xs') : v.ownBlock = none ∨ v.ownBlock ≠ u.ownBlock := by
 cases hv : v.ownBlock with
 | none => exact .inl rfl
 | some g =>
  refine .inr (fun e => ?_);have h1 := (h.lt g hv).2;have h2 := (k.lt g e.symm).1;omega
theorem WK.setBal {X : WkX} {K : Nat} {w wx : World} (h : WK w K X wx) (b : Tm.Bal) (a : Option Addr) (c : Nat) (ho : wx.ownsRow w.heap.size 3 1 (.slice a b.l.length c) b.l.length (b.l.map Tm.iv)) (hl : b.l.length ≤ 1000000) (hn : X.gn.ownBlock = none ∨ X.gn.ownBlock ≠ (Value.slice a b.l.length c).ownBlock) (hm : X.gm.ownBlock = none ∨ X.gm.ownBlock ≠ (Value.slice a b.l.length c).ownBlock) : WK w K {X with d := {X.d with b := b}, ba := a, bc := c} ((((wx.setCell ⟨K, 2, none⟩ (.int .i64 b.t)).setCell ⟨K, 3, none⟩ (.int .i64 b.v)).setCell ⟨K, 4, none⟩ (.int .i64 b.r)).setCell ⟨K, 5, none⟩ (.slice a b.l.length c)) := by
 have b0 : (wx.setCell ⟨K, 2, none⟩ (.int .i64 b.t)).heap[K]? = some (.cells #[.int .i64 X.d.me, .int .i64 X.d.n, .int .i64 b.t, .int .i64 X.d.b.v, .int .i64 X.d.b.r, .slice X.ba X.d.b.l.length X.bc, .int .i64 X.d.ld, .int .i64 X.d.L.bi, .int .i64 X.d.L.bt, .slice X.la X.d.L.l.length X.lc, .int .i64 X.d.L.cm, .string X.d.tx, .slice X.na X.d.nx.length X.nc, .slice X.ma X.d.mt.length X.mc, .slice X.ra X.R.length X.rc, .slice X.qa X.M.length X.qc, .int .i64 X.ix, .bool X.wt] 78 (0, 0)) := heap_set h.box 2 (.int .i64 b.t);have r0 : WR w.heap.size (wx.setCell ⟨K, 2, none⟩ (.int .i64 b.t)) X := h.rows.cell h.box (by decide) (by decide) (by decide) (by decide);have o0 : (wx.setCell ⟨K, 2, none⟩ (.int .i64 b.t)).ownsRow w.heap.size 3 1 (.slice a b.l.length c) b.l.length (b.l.map Tm.iv) := own_cell ho h.box (by decide);have l0 : Below w.heap.size w (wx.setCell ⟨K, 2, none⟩ (.int .i64 b.t)) := belowSet _ h.bel h.hK;have b1 : ((wx.setCell ⟨K, 2, none⟩ (.int .i64 b.t)).setCell ⟨K, 3, none⟩ (.int .i64 b.v)).heap[K]? = some (.cells #[.int .i64 X.d.me, .int .i64 X.d.n, .int .i64 b.t, .int .i64 b.v, .int .i64 X.d.b.r, .slice X.ba X.d.b.l.length X.bc, .int .i64 X.d.ld, .int .i64 X.d.L.bi, .int .i64 X.d.L.bt, .slice X.la X.d.L.l.length X.lc, .int .i64 X.d.L.cm, .string X.d.tx, .slice X.na X.d.nx.length X.nc, .slice X.ma X.d.mt.length X.mc, .slice X.ra X.R.length X.rc, .slice X.qa X.M.length X.qc, .int .i64 X.ix, .bool X.wt] 78 (0, 0)) := heap_set b0 3 (.int .i64 b.v);have r1 : WR w.heap.size ((wx.setCell ⟨K, 2, none⟩ (.int .i64 b.t)).setCell ⟨K, 3, none⟩ (.int .i64 b.v)) X := r0.cell b0 (by decide) (by decide) (by decide) (by decide);have o1 : ((wx.setCell ⟨K, 2, none⟩ (.int .i64 b.t)).setCell ⟨K, 3, none⟩ (.int .i64 b.v)).ownsRow w.heap.size 3 1 (.slice a b.l.length c) b.l.length (b.l.map Tm.iv) := own_cell o0 b0 (by decide);have l1 : Below w.heap.size w ((wx.setCell ⟨K, 2, none⟩ (.int .i64 b.t)).setCell ⟨K, 3, none⟩ (.int .i64 b.v)) := belowSet _ l0 h.hK;have b2 : (((wx.setCell ⟨K, 2, none⟩ (.int .i64 b.t)).setCell ⟨K, 3, none⟩ (.int .i64 b.v)).setCell ⟨K, 4, none⟩ (.int .i64 b.r)).heap[K]? = some (.cells #[.int .i64 X.d.me, .int .i64 X.d.n, .int .i64 b.t, .int .i64 b.v, .int .i64 b.r, .slice X.ba X.d.b.l.length X.bc, .int .i64 X.d.ld, .int .i64 X.d.L.bi, .int .i64 X.d.L.bt, .slice X.la X.d.L.l.length X.lc, .int .i64 X.d.L.cm, .string X.d.tx, .slice X.na X.d.nx.length X.nc, .slice X.ma X.d.mt.length X.mc, .slice X.ra X.R.length X.rc, .slice X.qa X.M.length X.qc, .int .i64 X.ix, .bool X.wt] 78 (0, 0)) := heap_set b1 4 (.int .i64 b.r);have r2 : WR w.heap.size (((wx.setCell ⟨K, 2, none⟩ (.int .i64 b.t)).setCell ⟨K, 3, none⟩ (.int .i64 b.v)).setCell ⟨K, 4, none⟩ (.int .i64 b.r)) X := r1.cell b1 (by decide) (by decide) (by decide) (by decide);have o2 : (((wx.setCell ⟨K, 2, none⟩ (.int .i64 b.t)).setCell ⟨K, 3, none⟩ (.int .i64 b.v)).setCell ⟨K, 4, none⟩ (.int .i64 b.r)).ownsRow w.heap.size 3 1 (.slice a b.l.length c) b.l.length (b.l.map Tm.iv) := own_cell o1 b1 (by decide);have l2 : Below w.heap.size w (((wx.setCell ⟨K, 2, none⟩ (.int .i64 b.t)).setCell ⟨K, 3, none⟩ (.int .i64 b.v)).setCell ⟨K, 4, none⟩ (.int .i64 b.r)) := belowSet _ l1 h.hK;have b3 : ((((wx.setCell ⟨K, 2, none⟩ (.int .i64 b.t)).setCell ⟨K, 3, none⟩ (.int .i64 b.v)).setCell ⟨K, 4, none⟩ (.int .i64 b.r)).setCell ⟨K, 5, none⟩ (.slice a b.l.length c)).heap[K]? = some (.cells #[.int .i64 X.d.me, .int .i64 X.d.n, .int .i64 b.t, .int .i64 b.v, .int .i64 b.r, .slice a b.l.length c, .int .i64 X.d.ld, .int .i64 X.d.L.bi, .int .i64 X.d.L.bt, .slice X.la X.d.L.l.length X.lc, .int .i64 X.d.L.cm, .string X.d.tx, .slice X.na X.d.nx.length X.nc, .slice X.ma X.d.mt.length X.mc, .slice X.ra X.R.length X.rc, .slice X.qa X.M.length X.qc, .int .i64 X.ix, .bool X.wt] 78 (0, 0)) := heap_set b2 5 (.slice a b.l.length c);have r3 : WR w.heap.size ((((wx.setCell ⟨K, 2, none⟩ (.int .i64 b.t)).setCell ⟨K, 3, none⟩ (.int .i64 b.v)).setCell ⟨K, 4, none⟩ (.int .i64 b.r)).setCell ⟨K, 5, none⟩ (.slice a b.l.length c)) X := r2.cell b2 (by decide) (by decide) (by decide) (by decide);have o3 : ((((wx.setCell ⟨K, 2, none⟩ (.int .i64 b.t)).setCell ⟨K, 3, none⟩ (.int .i64 b.v)).setCell ⟨K, 4, none⟩ (.int .i64 b.r)).setCell ⟨K, 5, none⟩ (.slice a b.l.length c)).ownsRow w.heap.size 3 1 (.slice a b.l.length c) b.l.length (b.l.map Tm.iv) := own_cell o2 b2 (by decide);have l3 : Below w.heap.size w ((((wx.setCell ⟨K, 2, none⟩ (.int .i64 b.t)).setCell ⟨K, 3, none⟩ (.int .i64 b.v)).setCell ⟨K, 4, none⟩ (.int .i64 b.r)).setCell ⟨K, 5, none⟩ (.slice a b.l.length c)) := belowSet _ l2 h.hK
 exact ⟨b3, ⟨⟨o3, r3.nd.l, r3.nd.n, r3.nd.m⟩, r3.rs, r3.ro, r3.ms, r3.mo, r3.nm, hn, hm, hl, r3.sl, r3.sn, r3.sm, r3.st, r3.sr, r3.sq⟩, h.hK, l3⟩
theorem hear_few (b : Tm.Bal) (t : Int) (h : b.l.length ≤ 1000000) : (Tm.hear2L b t).1.l.length ≤ 1000000 := by
 unfold Tm.hear2L
 split
 ·simp [Tm.zB]
 ·split
  ·simp [Tm.zB]
  ·unfold Tm.hearL
   split
   ·simp
   ·exact h
structure LBox (V0 : World) (P : Nat) (L : LogV) (a : Option Addr) (c : Nat) (wy : World) : Prop where
 box : wy.heap[P]? = some (.cells #[.int .i64 L.bi, .int .i64 L.bt, .slice a L.l.length c, .int .i64 L.cm] 36 (0, 0))
 own : wy.ownsRow V0.heap.size 55 3 (.slice a L.l.length c) L.l.length (entC L.l)
 bel : Below V0.heap.size V0 wy
 hP : V0.heap.size ≤ P
theorem LBox.new {V0 w5 : World} {L : LogV} {a : Option Addr} {c : Nat} (ho : w5.ownsRow V0.heap.size 55 3 (.slice a L.l.length c) L.l.length (entC L.l)) (hb : Below V0.heap.size V0 w5) : LBox V0 w5.heap.size L a c (w5.alloc (.cells #[.int .i64 L.bi, .int .i64 L.bt, .slice a L.l.length c, .int .i64 L.cm] 36)) :=
 ⟨heap_alloc_new w5 _, own_keep ho (below1 w5 _), below_via hb (below1 w5 _), hb.size⟩
theorem LBox.put {V0 w5 : World} {L : LogV} {a : Option Addr} {c : Nat} {P : Nat} {z0 z1 z2 z3 : Value} (hz : w5.heap[P]? = some (.cells #[z0, z1, z2, z3] 36 (0, 0))) (ho : w5.ownsRow V0.heap.size 55 3 (.slice a L.l.length c) L.l.length (entC L.l)) (hb : Below V0.heap.size V0 w5) (hP : V0.heap.size ≤ P) : LBox V0 P L a c ((((w5.setCell ⟨P, 0, none⟩ (.int .i64 L.bi)).setCell ⟨P, 1, none⟩ (.int .i64 L.bt)).setCell ⟨P, 2, none⟩ (.slice a L.l.length c)).setCell ⟨P, 3, none⟩ (.int .i64 L.cm)) := by
 have h0 := heap_set hz 0 (.int .i64 L.bi);have o0 := own_cell (u := .int .i64 L.bi) (j := 0) ho hz (by decide);have l0 := belowSet (j := 0) (.int .i64 L.bi) hb hP;have h1 := heap_set h0 1 (.int .i64 L.bt);have o1 := own_cell (u := .int .i64 L.bt) (j := 1) o0 h0 (by decide);have l1 := belowSet (j := 1) (.int .i64 L.bt) l0 hP;have h2 := heap_set h1 2 (.slice a L.l.length c);have o2 := own_cell (u := .slice a L.l.length c) (j := 2) o1 h1 (by decide);have l2 := belowSet (j := 2) (.slice a L.l.length c) l1 hP
 exact ⟨heap_set h2 3 (.int .i64 L.cm), own_cell (u := .int .i64 L.cm) (j := 3) o2 h2 (by decide), belowSet (j := 3) (.int .i64 L.cm) l2 hP, hP⟩
structure BBox (V0 : World) (P : Nat) (b : Tm.Bal) (a : Option Addr) (c : Nat) (wy : World) : Prop where
 box : wy.heap[P]? = some (.cells #[.int .i64 b.t, .int .i64 b.v, .int .i64 b.r, .slice a b.l.length c] 34 (0, 0))
 own : wy.ownsRow V0.heap.size 3 1 (.slice a b.l.length c) b.l.length (b.l.map Tm.iv)
 bel : Below V0.heap.size V0 wy
 hP : V0.heap.size ≤ P
theorem BBox.new {V0 w5 : World} {b : Tm.Bal} {a : Option Addr} {c : Nat} (ho : w5.ownsRow V0.heap.size 3 1 (.slice a b.l.length c) b.l.length (b.l.map Tm.iv)) (hb : Below V0.heap.size V0 w5) : BBox V0 w5.heap.size b a c (w5.alloc (.cells #[.int .i64 b.t, .int .i64 b.v, .int .i64 b.r, .slice a b.l.length c] 34)) :=
 ⟨heap_alloc_new w5 _, own_keep ho (below1 w5 _), below_via hb (below1 w5 _), hb.size⟩
theorem BBox.put {V0 w5 : World} {b : Tm.Bal} {a : Option Addr} {c : Nat} {P : Nat} {z0 z1 z2 z3 : Value} (hz : w5.heap[P]? = some (.cells #[z0, z1, z2, z3] 34 (0, 0))) (ho : w5.ownsRow V0.heap.size 3 1 (.slice a b.l.length c) b.l.length (b.l.map Tm.iv)) (hb : Below V0.heap.size V0 w5) (hP : V0.heap.size ≤ P) : BBox V0 P b a c ((((w5.setCell ⟨P, 0, none⟩ (.int .i64 b.t)).setCell ⟨P, 1, none⟩ (.int .i64 b.v)).setCell ⟨P, 2, none⟩ (.int .i64 b.r)).setCell ⟨P, 3, none⟩ (.slice a b.l.length c)) := by
 have h0 := heap_set hz 0 (.int .i64 b.t);have o0 := own_cell (u := .int .i64 b.t) (j := 0) ho hz (by decide);have l0 := belowSet (j := 0) (.int .i64 b.t) hb hP;have h1 := heap_set h0 1 (.int .i64 b.v);have o1 := own_cell (u := .int .i64 b.v) (j := 1) o0 h0 (by decide);have l1 := belowSet (j := 1) (.int .i64 b.v) l0 hP;have h2 := heap_set h1 2 (.int .i64 b.r);have o2 := own_cell (u := .int .i64 b.r) (j := 2) o1 h1 (by decide);have l2 := belowSet (j := 2) (.int .i64 b.r) l1 hP
 exact ⟨heap_set h2 3 (.slice a b.l.length c), own_cell (u := .slice a b.l.length c) (j := 3) o2 h2 (by decide), belowSet (j := 3) (.slice a b.l.length c) l2 hP, hP⟩
theorem at4 {w : World} {p : Nat} {ty : TypeId} {z0 z1 z2 z3 : Value} (h : w.heap[p]? = some (.cells #[z0, z1, z2, z3] ty (0, 0))) : (w.cell? ⟨p, 0, none⟩ = some z0 ∧ w.cell? ⟨p, 1, none⟩ = some z1 ∧ w.cell? ⟨p, 2, none⟩ = some z2 ∧ w.cell? ⟨p, 3, none⟩ = some z3) ∧ (∀ j, w.frozen? ⟨p, j, none⟩ = false) ∧ p < w.heap.size :=
 ⟨⟨by rw [Tm.cell_at h]; rfl, by rw [Tm.cell_at h]; rfl, by rw [Tm.cell_at h]; rfl, by rw [Tm.cell_at h]; rfl⟩, fun j => Tm.free_at h j, (Array.getElem?_eq_some_iff.1 h).1⟩
theorem WK.putM {X : WkX} {K : Nat} {w wx : World} (h : WK w K X wx) {g : Nat} (hg : X.ma = some ⟨g, 0, none⟩) (k : Nat) (x : Int) : WK w K {X with d := {X.d with mt := X.d.mt.set k x}} (wx.setCell ⟨g, k, none⟩ (.int .i64 x)) := by
 have ho : wx.ownsRow w.heap.size 3 1 (.slice (some ⟨g, 0, none⟩) X.d.mt.length X.mc) X.d.mt.length (X.d.mt.map Tm.iv) := by
  have := h.rows.nd.m;unfold WkX.gm at this;rw [hg] at this;exact this
 have hgb : X.gm.ownBlock = some g := by
  unfold WkX.gm;rw [hg]
  rfl
 obtain ⟨s1, s2⟩ := ho.stored k (.int .i64 x);have hgr : wx.grownBy (wx.setCell ⟨g, k, none⟩ (.int .i64 x)) (Value.slice (some ⟨g, 0, none⟩) X.d.mt.length X.mc).ownBlock := s2;have hlt := (ho.lt g rfl).1;have hr := h.rows;have hbox := box_type hgr ho h.box (by decide);have e1 : (X.d.mt.set k x).length = X.d.mt.length := List.length_set ..;have e2 : (X.d.mt.map Tm.iv).set k (.int .i64 x) = (X.d.mt.set k x).map Tm.iv := by
  rw [List.map_set]
  rfl
 rw [e2] at s1;have hb : (wx.setCell ⟨g, k, none⟩ (.int .i64 x)).ownsRow w.heap.size 3 1 X.gb X.d.b.l.length (X.d.b.l.map Tm.iv) := Tm.ownOther _ hr.nd.b (fun j hj e => by
  subst e
  rcases hr.mb with h1 | h1
  ·rw [hgb] at h1;cases h1
  ·exact h1 (hgb.trans hj.symm))
 have hq : (wx.setCell ⟨g, k, none⟩ (.int .i64 x)).ownsRow w.heap.size 3 1 X.gn X.d.nx.length (X.d.nx.map Tm.iv) := Tm.ownOther _ hr.nd.n (fun j hj e => by
  subst e
  rcases hr.nm with h1 | h1
  ·rw [hj] at h1;cases h1
  ·exact h1 (hj.trans hgb.symm))
 have hl : (wx.setCell ⟨g, k, none⟩ (.int .i64 x)).ownsRow w.heap.size 55 3 X.gl X.d.L.l.length (entC X.d.L.l) := own_type hgr ho hr.nd.l (by decide);have eo : (Value.slice X.ma (X.d.mt.set k x).length X.mc).ownBlock = X.gm.ownBlock := by
  unfold WkX.gm;rw [e1]
 have nmY : X.gn.ownBlock = none ∨ X.gn.ownBlock ≠ (Value.slice X.ma (X.d.mt.set k x).length X.mc).ownBlock := by
  rw [eo];exact hr.nm
 have mbY : (Value.slice X.ma (X.d.mt.set k x).length X.mc).ownBlock = none ∨ (Value.slice X.ma (X.d.mt.set k x).length X.mc).ownBlock ≠ X.gb.ownBlock := by
  rw [eo];exact hr.mb
 refine ⟨?_, ⟨⟨hb, hl, hq, ?_⟩, own_type hgr ho hr.rs (by decide), fun y hy => (hr.ro y hy).kept hgr ho (by decide), own_type hgr ho hr.ms (by decide), fun y hy => (hr.mo y hy).kept hgr ho (by decide), nmY, hr.nb, mbY, hr.sb, hr.sl, hr.sn, ?_, hr.st, hr.sr, hr.sq⟩, h.hK, belowSet _ h.bel hlt⟩
 ·rw [hbox];unfold wkA;simp only [e1]
 ·unfold WkX.gm;simp only [e1, hg];exact s1
 ·simp only [e1];exact hr.sm
theorem WK.putX {X : WkX} {K : Nat} {w wx : World} (h : WK w K X wx) {g : Nat} (hg : X.na = some ⟨g, 0, none⟩) (k : Nat) (x : Int) : WK w K {X with d := {X.d with nx := X.d.nx.set k x}} (wx.setCell ⟨g, k, none⟩ (.int .i64 x)) := by
 have ho : wx.ownsRow w.heap.size 3 1 (.slice (some ⟨g, 0, none⟩) X.d.nx.length X.nc) X.d.nx.length (X.d.nx.map Tm.iv) := by
  have := h.rows.nd.n;unfold WkX.gn at this;rw [hg] at this;exact this
 have hgb : X.gn.ownBlock = some g := by
  unfold WkX.gn;rw [hg]
  rfl
 obtain ⟨s1, s2⟩ := ho.stored k (.int .i64 x);have hgr : wx.grownBy (wx.setCell ⟨g, k, none⟩ (.int .i64 x)) (Value.slice (some ⟨g, 0, none⟩) X.d.nx.length X.nc).ownBlock := s2;have hlt := (ho.lt g rfl).1;have hr := h.rows;have hbox := box_type hgr ho h.box (by decide);have e1 : (X.d.nx.set k x).length = X.d.nx.length := List.length_set ..;have e2 : (X.d.nx.map Tm.iv).set k (.int .i64 x) = (X.d.nx.set k x).map Tm.iv := by
  rw [List.map_set]
  rfl
 rw [e2] at s1;have hb : (wx.setCell ⟨g, k, none⟩ (.int .i64 x)).ownsRow w.heap.size 3 1 X.gb X.d.b.l.length (X.d.b.l.map Tm.iv) := Tm.ownOther _ hr.nd.b (fun j hj e => by
  subst e
  rcases hr.nb with h1 | h1
  ·rw [hgb] at h1;cases h1
  ·exact h1 (hgb.trans hj.symm))
 have hq : (wx.setCell ⟨g, k, none⟩ (.int .i64 x)).ownsRow w.heap.size 3 1 X.gm X.d.mt.length (X.d.mt.map Tm.iv) := Tm.ownOther _ hr.nd.m (fun j hj e => by
  subst e
  rcases hr.nm with h1 | h1
  ·rw [hgb] at h1;cases h1
  ·exact h1 (hgb.trans hj.symm))
 have hl : (wx.setCell ⟨g, k, none⟩ (.int .i64 x)).ownsRow w.heap.size 55 3 X.gl X.d.L.l.length (entC X.d.L.l) := own_type hgr ho hr.nd.l (by decide);have eo : (Value.slice X.na (X.d.nx.set k x).length X.nc).ownBlock = X.gn.ownBlock := by
  unfold WkX.gn;rw [e1]
 have nmY : (Value.slice X.na (X.d.nx.set k x).length X.nc).ownBlock = none ∨ (Value.slice X.na (X.d.nx.set k x).length X.nc).ownBlock ≠ X.gm.ownBlock := by
  rw [eo];exact hr.nm
 have nbY : (Value.slice X.na (X.d.nx.set k x).length X.nc).ownBlock = none ∨ (Value.slice X.na (X.d.nx.set k x).length X.nc).ownBlock ≠ X.gb.ownBlock := by
  rw [eo];exact hr.nb
 refine ⟨?_, ⟨⟨hb, hl, ?_, hq⟩, own_type hgr ho hr.rs (by decide), fun y hy => (hr.ro y hy).kept hgr ho (by decide), own_type hgr ho hr.ms (by decide), fun y hy => (hr.mo y hy).kept hgr ho (by decide), nmY, nbY, hr.mb, hr.sb, hr.sl, ?_, hr.sm, hr.st, hr.sr, hr.sq⟩, h.hK, belowSet _ h.bel hlt⟩
 ·rw [hbox];unfold wkA;simp only [e1]
 ·unfold WkX.gn;simp only [e1, hg];exact s1
 ·simp only [e1];exact hr.sn
theorem WR.mcell {B : Nat} {wx : World} {X : WkX} (h : WR B wx X) (k : Nat) (hk : k < X.d.mt.length) : ∃ g, X.ma = some ⟨g, 0, none⟩ ∧ wx.cell? ⟨g, k, none⟩ = some (.int .i64 (X.d.mt.getD k 0)) ∧ wx.frozen? ⟨g, k, none⟩ = false ∧ g < wx.heap.size := by
 have ho := h.nd.m;obtain ⟨_, ⟨hv, h0⟩ | ⟨g, cap, cur, hv, hB, hb, hn, hc, _, _⟩⟩ := ho
 ·omega
 ·have ho := h.nd.m;unfold WkX.gm at hv ho;simp only [Value.slice.injEq] at hv;rw [hv.1] at ho;refine ⟨g, hv.1, ?_, ho.frozenAt k, (Array.getElem?_eq_some_iff.1 hb).1⟩;rw [ho.cellAt k (by omega), Tm.map_get _ _ hk]
theorem WR.ncell {B : Nat} {wx : World} {X : WkX} (h : WR B wx X) (k : Nat) (hk : k < X.d.nx.length) : ∃ g, X.na = some ⟨g, 0, none⟩ ∧ wx.cell? ⟨g, k, none⟩ = some (.int .i64 (X.d.nx.getD k 0)) ∧ wx.frozen? ⟨g, k, none⟩ = false ∧ g < wx.heap.size := by
 have ho := h.nd.n;obtain ⟨_, ⟨hv, h0⟩ | ⟨g, cap, cur, hv, hB, hb, hn, hc, _, _⟩⟩ := ho
 ·omega
 ·have ho := h.nd.n;unfold WkX.gn at hv ho;simp only [Value.slice.injEq] at hv;rw [hv.1] at ho;refine ⟨g, hv.1, ?_, ho.frozenAt k, (Array.getElem?_eq_some_iff.1 hb).1⟩;rw [ho.cellAt k (by omega), Tm.map_get _ _ hk]
set_option maxRecDepth 100000 in
set_option maxHeartbeats 8000000 in
theorem eachS_is {X : WkX} {K : Nat} {w wx : World} {f : WkV → Nat → WkV} (h : WK w K X wx) (hn : 1 ≤ X.d.n ∧ X.d.n ≤ 7) (hM : X.M.length + 10 ≤ 1000000) (hc : ∀ (Y : WkX) (wy : World) (k : Nat), WK w K Y wy → Y.d = X.d → Y.M.length < 1000000 → 1 ≤ k → (k : Int) ≤ X.d.n → (k : Int) ≠ X.d.me → Calls Tryz.prog 89 #[.pointer (some ⟨K, 0, none⟩), .int .i64 (k : Int)] wy fun e w' => ∃ Y' : WkX, e = .returned (.tuple #[]) ∧ Y'.v = f Y.v k ∧ Y'.d = Y.d ∧ Y'.M.length = Y.M.length + 1 ∧ Y'.R = Y.R ∧ WK w K Y' w') : Calls Tryz.prog 88 #[.pointer (some ⟨K, 0, none⟩), .func (.func 89) #[.pointer (some ⟨K, 0, none⟩)] #[]] wx fun e w' => ∃ X' : WkX, e = .returned (.tuple #[]) ∧ X'.v = allW f X.v ∧ X'.d = X.d ∧ X'.M.length ≤ X.M.length + 7 ∧ X'.R = X.R ∧ WK w K X' w' := by
 have HX0 := hideIt h;have HC := hideIt hc;clear h hc
 go_enter Tryz.func88, Tryz.ntmps88
 go_wp2
 go_loopw [4] (fun v wr => ∃ (t : Nat) (Y : WkX), v = .int .i64 ((t : Int) + 1) ∧ (t : Int) ≤ X.d.n ∧ Hid (Y.v = eachW f t X.v ∧ Y.d = X.d ∧ Y.M.length ≤ X.M.length + t ∧ Y.R = X.R ∧ WK w K Y wr)) (fun v _ => (X.d.n + 1 - intOf v).toNat)
 case atStart => exact ⟨0, X, rfl, by omega, hideIt ⟨rfl, rfl, by omega, rfl, HX0.out⟩⟩
 case round =>
  clear HX0;obtain ⟨t, Y, rfl, ht, HY⟩ := hrel;obtain ⟨⟨k0, k1, k2, k3, k4, k5, k6, k7, k8, k9, k10, k11, k12, k13, k14, k15, k16, k17⟩, kf, kz⟩ := at18 HY.out.2.2.2.2.box;rw [HY.out.2.1] at k0 k1;clear k2 k3 k4 k5 k6 k7 k8 k9 k10 k11 k12 k13 k14 k15 k16 k17
  by_cases hlt : (t : Int) + 1 ≤ X.d.n
  ·by_cases hme : (t : Int) + 1 = X.d.me
   ·have HN : Hid (Y.v = eachW f (t + 1) X.v ∧ Y.d = X.d ∧ Y.M.length ≤ X.M.length + (t + 1) ∧ Y.R = X.R ∧ WK w K Y wr) := by
     obtain ⟨h1, h2, h3, hq, h4⟩ := HY.out;refine ⟨?_, h2, by omega, hq, h4⟩;unfold eachW;rw [← h1, if_pos]
     ·show ((t + 1 : Nat) : Int) = Y.d.me
      rw [h2, ← hme];omega
    clear HY;go_wp2
    go_roundw
    case rel => exact ⟨t + 1, Y, by go_num, by omega, HN⟩
    case measure => simp [intOf]; omega
   ·have HK := hideIt (HC.out Y wr (t + 1) HY.out.2.2.2.2 HY.out.2.1 (by have := HY.out.2.2.1; omega) (by omega) (by omega) (by omega))
    rw [show ((t + 1 : Nat) : Int) = (t : Int) + 1 by omega] at HK
    go_wp2_with fail
    refine HK.out.mono ?_;rintro e w1 ⟨Y', rfl, hv, hd, hl, hr, hw⟩;dsimp only;have HN : Hid (Y'.v = eachW f (t + 1) X.v ∧ Y'.d = X.d ∧ Y'.M.length ≤ X.M.length + (t + 1) ∧ Y'.R = X.R ∧ WK w K Y' w1) := by
     obtain ⟨h1, h2, h3, hq, h4⟩ := HY.out;refine ⟨?_, hd.trans h2, by omega, hr.trans hq, hw⟩;unfold eachW;rw [← h1, if_neg, hv]
     ·show ¬ ((t + 1 : Nat) : Int) = Y.d.me
      rw [h2];omega
    clear HK HY hv hd hl hr hw k0 k1 kf kz;go_wp2
    go_roundw
    case rel => exact ⟨t + 1, Y', by go_num, by omega, HN⟩
    case measure => simp [intOf]; omega
  ·have e : X.d.n.toNat = t := by omega
   have HN : Hid (Y.v = allW f X.v ∧ Y.d = X.d ∧ Y.M.length ≤ X.M.length + 7 ∧ Y.R = X.R ∧ WK w K Y wr) := by
    obtain ⟨h1, h2, h3, hq, h4⟩ := HY.out;refine ⟨?_, h2, by omega, hq, h4⟩;unfold allW;rw [h1]
    show _ = eachW f X.d.n.toNat X.v
    rw [e]
   clear HY;go_wp2
   go_end0
   first | exact ⟨Y, rfl, HN.out⟩ | exact ⟨rfl, Y, HN.out⟩
set_option maxRecDepth 100000 in
set_option maxHeartbeats 8000000 in
theorem eachP_is {X : WkX} {K : Nat} {w wx : World} {f : WkV → Nat → WkV} (h : WK w K X wx) (hn : 1 ≤ X.d.n ∧ X.d.n ≤ 7) (hM : X.M.length + 10 ≤ 1000000) (hc : ∀ (Y : WkX) (wy : World) (k : Nat), WK w K Y wy → Y.d = X.d → Y.M.length < 1000000 → 1 ≤ k → (k : Int) ≤ X.d.n → (k : Int) ≠ X.d.me → Calls Tryz.prog 92 #[.pointer (some ⟨K, 0, none⟩), .int .i64 (k : Int)] wy fun e w' => ∃ Y' : WkX, e = .returned (.tuple #[]) ∧ Y'.v = f Y.v k ∧ Y'.d = Y.d ∧ Y'.M.length = Y.M.length + 1 ∧ Y'.R = Y.R ∧ WK w K Y' w') : Calls Tryz.prog 88 #[.pointer (some ⟨K, 0, none⟩), .func (.func 92) #[.pointer (some ⟨K, 0, none⟩)] #[]] wx fun e w' => ∃ X' : WkX, e = .returned (.tuple #[]) ∧ X'.v = allW f X.v ∧ X'.d = X.d ∧ X'.M.length ≤ X.M.length + 7 ∧ X'.R = X.R ∧ WK w K X' w' := by
 have HX0 := hideIt h;have HC := hideIt hc;clear h hc
 go_enter Tryz.func88, Tryz.ntmps88
 go_wp2
 go_loopw [4] (fun v wr => ∃ (t : Nat) (Y : WkX), v = .int .i64 ((t : Int) + 1) ∧ (t : Int) ≤ X.d.n ∧ Hid (Y.v = eachW f t X.v ∧ Y.d = X.d ∧ Y.M.length ≤ X.M.length + t ∧ Y.R = X.R ∧ WK w K Y wr)) (fun v _ => (X.d.n + 1 - intOf v).toNat)
 case atStart => exact ⟨0, X, rfl, by omega, hideIt ⟨rfl, rfl, by omega, rfl, HX0.out⟩⟩
 case round =>
  clear HX0;obtain ⟨t, Y, rfl, ht, HY⟩ := hrel;obtain ⟨⟨k0, k1, k2, k3, k4, k5, k6, k7, k8, k9, k10, k11, k12, k13, k14, k15, k16, k17⟩, kf, kz⟩ := at18 HY.out.2.2.2.2.box;rw [HY.out.2.1] at k0 k1;clear k2 k3 k4 k5 k6 k7 k8 k9 k10 k11 k12 k13 k14 k15 k16 k17
  by_cases hlt : (t : Int) + 1 ≤ X.d.n
  ·by_cases hme : (t : Int) + 1 = X.d.me
   ·have HN : Hid (Y.v = eachW f (t + 1) X.v ∧ Y.d = X.d ∧ Y.M.length ≤ X.M.length + (t + 1) ∧ Y.R = X.R ∧ WK w K Y wr) := by
     obtain ⟨h1, h2, h3, hq, h4⟩ := HY.out;refine ⟨?_, h2, by omega, hq, h4⟩;unfold eachW;rw [← h1, if_pos]
     ·show ((t + 1 : Nat) : Int) = Y.d.me
      rw [h2, ← hme];omega
    clear HY;go_wp2
    go_roundw
    case rel => exact ⟨t + 1, Y, by go_num, by omega, HN⟩
    case measure => simp [intOf]; omega
   ·have HK := hideIt (HC.out Y wr (t + 1) HY.out.2.2.2.2 HY.out.2.1 (by have := HY.out.2.2.1; omega) (by omega) (by omega) (by omega))
    rw [show ((t + 1 : Nat) : Int) = (t : Int) + 1 by omega] at HK
    go_wp2_with fail
    refine HK.out.mono ?_;rintro e w1 ⟨Y', rfl, hv, hd, hl, hr, hw⟩;dsimp only;have HN : Hid (Y'.v = eachW f (t + 1) X.v ∧ Y'.d = X.d ∧ Y'.M.length ≤ X.M.length + (t + 1) ∧ Y'.R = X.R ∧ WK w K Y' w1) := by
     obtain ⟨h1, h2, h3, hq, h4⟩ := HY.out;refine ⟨?_, hd.trans h2, by omega, hr.trans hq, hw⟩;unfold eachW;rw [← h1, if_neg, hv]
     ·show ¬ ((t + 1 : Nat) : Int) = Y.d.me
      rw [h2];omega
    clear HK HY hv hd hl hr hw k0 k1 kf kz;go_wp2
    go_roundw
    case rel => exact ⟨t + 1, Y', by go_num, by omega, HN⟩
    case measure => simp [intOf]; omega
  ·have e : X.d.n.toNat = t := by omega
   have HN : Hid (Y.v = allW f X.v ∧ Y.d = X.d ∧ Y.M.length ≤ X.M.length + 7 ∧ Y.R = X.R ∧ WK w K Y wr) := by
    obtain ⟨h1, h2, h3, hq, h4⟩ := HY.out;refine ⟨?_, h2, by omega, hq, h4⟩;unfold allW;rw [h1]
    show _ = eachW f X.d.n.toNat X.v
    rw [e]
   clear HY;go_wp2
   go_end0
   first | exact ⟨Y, rfl, HN.out⟩ | exact ⟨rfl, Y, HN.out⟩
theorem pollK_is {X : WkX} {K : Nat} {w wx : World} (h : WK w K X wx) (k : Nat) (hs : X.M.length < 1000000) : Calls Tryz.prog 92 #[.pointer (some ⟨K, 0, none⟩), .int .i64 (k : Int)] wx fun e w' => ∃ Y' : WkX, e = .returned (.tuple #[]) ∧ Y'.v = pollW X.v k ∧ Y'.d = X.d ∧ Y'.M.length = X.M.length + 1 ∧ Y'.R = X.R ∧ WK w K Y' w' := by
 refine (poll_is h (k : Int) hs).mono ?_;rintro e w' ⟨a, c, rfl, hw⟩
 exact ⟨{X with M := X.M ++ [⟨{msg0 1 k with frm := X.d.me, term := X.d.b.t, pi := (lastL X.d.L).1, pt := (lastL X.d.L).2}, none, 0⟩], qa := a, qc := c}, rfl, by simp [WkX.v, pollW, tellW], rfl, by simp, rfl, hw⟩
set_option maxRecDepth 100000 in
set_option maxHeartbeats 8000000 in
theorem sendK_is {X : WkX} {K : Nat} {w wx : World} (h : WK w K X wx) (k : Nat) (hk : k < X.d.nx.length) (hb : 0 ≤ X.d.nx.getD k 0 ∧ X.d.nx.getD k 0 ≤ 1000001) (hs : X.M.length < 1000000) : Calls Tryz.prog 89 #[.pointer (some ⟨K, 0, none⟩), .int .i64 (k : Int)] wx fun e w' => ∃ Y' : WkX, e = .returned (.tuple #[]) ∧ Y'.v = sendW X.v k ∧ Y'.d = X.d ∧ Y'.M.length = X.M.length + 1 ∧ Y'.R = X.R ∧ WK w K Y' w' := by
 obtain ⟨⟨k0, k1, k2, k3, k4, k5, k6, k7, k8, k9, k10, k11, k12, k13, k14, k15, k16, k17⟩, kf, kz⟩ := at18 h.box;obtain ⟨g, hg, n0, nf, nz⟩ := h.rows.ncell k hk;rw [hg] at k12;have hsz := h.rows.sn;obtain ⟨hcap1, hcap2⟩ : X.d.nx.length ≤ X.nc ∧ X.nc ≤ maxLen := by
  obtain ⟨_, ⟨hv, h0⟩ | ⟨g', cap, cur, hv, hB, hb, hn, hc, _, _⟩⟩ := h.rows.nd.n
  ·omega
  ·unfold WkX.gn at hv;simp only [Value.slice.injEq] at hv;omega
 have hk0 : (0 : Int) ≤ (k : Int) := by omega
 have hkl : (k : Int) < (X.d.nx.length : Int) := by omega
 have HV : Hid (sendW X.v k = if X.d.nx.getD k 0 ≤ X.d.L.bi then tellW X.v {msg0 5 k with si := X.d.L.bi, st := X.d.L.bt, tx := X.d.tx} else tellW X.v {msg0 3 k with pi := X.d.nx.getD k 0 - 1, pt := (termL X.d.L (X.d.nx.getD k 0 - 1)).1, es := fromL X.d.L (X.d.nx.getD k 0) 16, cm := X.d.L.cm}) := hideIt rfl;have HX := hideIt h
 by_cases c : X.d.nx.getD k 0 ≤ X.d.L.bi
 ·rw [if_pos c] at HV;have HS := hideIt (snapV_is h);have HT := hideIt (fun W (hW : Below wx.heap.size wx W) => tell_is (h.keep hW) ⟨{msg0 5 k with si := X.d.L.bi, st := X.d.L.bt, tx := X.d.tx}, none, 0⟩ (EntO.nil _ _) hs);clear h hs;unfold msgE msg0 noT at HT;simp only [List.length_nil] at HT;generalize X.d.nx.getD k 0 = nxt at *
  go_enter Tryz.func89, Tryz.ntmps89
  go_wp2_with fail
  refine HS.out.mono ?_;rintro e w1 ⟨rfl, hb1⟩;dsimp only;have HT1 := hideIt (HT.out w1 hb1);clear hb1 HT HS k0 k1 k2 k3 k4 k5 k6 k7 k8 k9 k10 k11 k12 k13 k14 k15 k16 k17 kf kz n0 nf nz HX
  go_wp2_with fail
  refine HT1.out.mono ?_;rintro e w2 ⟨a, c, rfl, hw⟩;dsimp only;have HW := hideIt hw;clear hw HT1;go_wp2;refine bodyPost_ret (v := .tuple #[]) (by simp [results, Tryz.results89, go_sem]) rfl ?_;refine ⟨{X with M := X.M ++ [⟨{msg0 5 k with frm := X.d.me, term := X.d.b.t, si := X.d.L.bi, st := X.d.L.bt, tx := X.d.tx}, none, 0⟩], qa := a, qc := c}, rfl, ?_, rfl, by simp, rfl, HW.out⟩;rw [HV.out]
  simp [WkX.v, tellW, msg0, noT]
 ·rw [if_neg c] at HV;have HA := hideIt (termAt_is X.d.L X.gl (X.d.nx.getD k 0 - 1) wx h.rows.at_.2);have HF := hideIt (fun W (hW : Below wx.heap.size wx W) => from_is X.d.L X.gl (X.d.nx.getD k 0) 16 W (h.keep hW).rows.at_.2 ⟨by unfold i64B; omega, by unfold i64B; omega⟩)
  have hfl := fromL_len X.d.L (X.d.nx.getD k 0) 16 (by omega);clear h;unfold EntsBack at HF;unfold logV logA WkX.gl at HA HF;generalize X.d.nx.getD k 0 = nxt at *;generalize fromL X.d.L nxt 16 = F at *;generalize (termL X.d.L (nxt - 1)).1 = pt at *;generalize (termL X.d.L (nxt - 1)).2 = pok at *
  go_enter Tryz.func89, Tryz.ntmps89
  go_wp2_with fail
  refine HA.out.mono ?_;rintro e w1 ⟨rfl, hb1⟩;dsimp only;have hwr : IntKind.i64.wrap (nxt - 1) = nxt - 1 := by rw [IntKind.wrap_i64]; omega
  have HX1 := hideIt (HX.out.keep hb1);have HF2 : Hid (∀ W, Below w1.heap.size w1 W → Calls Tryz.prog 51 #[.agg #[.int .i64 X.d.L.bi, .int .i64 X.d.L.bt, .slice X.la X.d.L.l.length X.lc, .int .i64 X.d.L.cm], .int .i64 nxt, .int .i64 16] W fun e w' => ∃ fa fc, e = .returned (.slice fa F.length fc) ∧ Hid (w'.ownsRow w1.heap.size 55 3 (.slice fa F.length fc) F.length (entC F) ∧ Below w1.heap.size w1 w') ∧ (w'.cell? ⟨K, 7, none⟩ = some (.int .i64 X.d.L.bi) ∧ w'.cell? ⟨K, 8, none⟩ = some (.int .i64 X.d.L.bt) ∧ w'.cell? ⟨K, 9, none⟩ = some (.slice X.la X.d.L.l.length X.lc) ∧ w'.cell? ⟨K, 10, none⟩ = some (.int .i64 X.d.L.cm))) := by
   intro W hW;refine (HF.out W (below_via hb1 hW)).mono ?_;rintro e w' ⟨r, rfl, ho, hbl⟩;obtain ⟨fa, fc, rfl⟩ := own_len ho;have hb2 := below_via hW hbl;obtain ⟨⟨k0, k1, k2, k3, k4, k5, k6, k7, k8, k9, k10, k11, k12, k13, k14, k15, k16, k17⟩, kf, kz⟩ := at18 (HX1.out.keep hb2).box
   exact ⟨fa, fc, rfl, hideIt ⟨own_base ho hW.size, hb2⟩, k7, k8, k9, k10⟩
  have HTT : Hid (∀ W fa fc, Hid (W.ownsRow w1.heap.size 55 3 (.slice fa F.length fc) F.length (entC F) ∧ Below w1.heap.size w1 W) → Calls Tryz.prog 130 #[.pointer (some ⟨K, 0, none⟩), .agg #[.int .i64 3, .int .i64 0, .int .i64 (k : Int), .int .i64 0, .int .i64 (nxt - 1), .int .i64 pt, .slice fa F.length fc, .int .i64 X.d.L.cm, .bool false, .int .i64 0, .int .i64 0, .int .i64 0, .string ⟨#[]⟩]] W fun e w' => e = .returned (.tuple #[]) ∧ Hid (∃ a c, WK w K {X with M := X.M ++ [⟨{msg0 3 k with frm := X.d.me, term := X.d.b.t, pi := nxt - 1, pt := pt, es := F, cm := X.d.L.cm}, fa, fc⟩], qa := a, qc := c} w') ∧ (w'.cell? ⟨K, 7, none⟩ = some (.int .i64 X.d.L.bi) ∧ w'.cell? ⟨K, 8, none⟩ = some (.int .i64 X.d.L.bt) ∧ w'.cell? ⟨K, 9, none⟩ = some (.slice X.la X.d.L.l.length X.lc) ∧ w'.cell? ⟨K, 10, none⟩ = some (.int .i64 X.d.L.cm))) := by
   intro W fa fc hQ;refine (tell_is (HX1.out.keep hQ.out.2) ⟨{msg0 3 k with pi := nxt - 1, pt := pt, es := F, cm := X.d.L.cm}, fa, fc⟩ ⟨own_base hQ.out.1 HX1.out.bel.size, hfl⟩ hs).mono ?_;rintro e w' ⟨a, c, rfl, hw⟩;obtain ⟨⟨k0, k1, k2, k3, k4, k5, k6, k7, k8, k9, k10, k11, k12, k13, k14, k15, k16, k17⟩, kf, kz⟩ := at18 hw.box
   exact ⟨rfl, hideIt ⟨a, c, hw⟩, k7, k8, k9, k10⟩
  clear HA HF k0 k1 k2 k3 k4 k5 k6 k7 k8 k9 k10 k11 k12 k13 k14 k15 k16 k17 kf kz n0 nf nz hb1;obtain ⟨⟨-, -, -, -, -, -, -, k7, k8, k9, k10, -, -, -, -, -, -, -⟩, kf, kz⟩ := at18 HX1.out.box
  go_upto_region 4 with fail
  go_region_held3 (fun W => W.cell? ⟨K, 7, none⟩ = some (.int .i64 X.d.L.bi) ∧ W.cell? ⟨K, 8, none⟩ = some (.int .i64 X.d.L.bt) ∧ W.cell? ⟨K, 9, none⟩ = some (.slice X.la X.d.L.l.length X.lc) ∧ W.cell? ⟨K, 10, none⟩ = some (.int .i64 X.d.L.cm)) (go_keep) (first | (go_at_call 51; refine (HF2.out _ (by first | exact (Below.refl _ _).drew | exact Below.refl _ _)).mono ?_; rintro e w2 ⟨fa, fc, rfl, HQ, ⟨i0, i1, i2, i3⟩⟩) | (go_at_call 130; refine (HTT.out w2 fa fc HQ).mono ?_; rintro e w3 ⟨rfl, HW, ⟨m0, m1, m2, m3⟩⟩))
  all_goals go_wp2
  all_goals go_end0
  all_goals (obtain ⟨a, c, hw⟩ := HW.out; refine ⟨{X with M := X.M ++ [⟨{msg0 3 k with frm := X.d.me, term := X.d.b.t, pi := nxt - 1, pt := pt, es := F, cm := X.d.L.cm}, fa, fc⟩], qa := a, qc := c}, rfl, ?_, rfl, by simp, rfl, hw⟩; rw [HV.out]; simp [WkX.v, tellW, msg0, noT])
theorem add_len (L : LogV) (e : EntV) (h : L.l.length ≤ 1000000) : (addL L e).1.l.length ≤ 1000000 := by
 by_cases h0 : (addL L e).2 = 0
 ·obtain ⟨a1, a2, a3, a4, a5⟩ := add_log h0;have := mayB_in a4;omega
 ·unfold addL at h0 ⊢
  split
  ·simp [zL]
  ·split
   ·simp [zL]
   ·split
    ·simp [zL]
    ·split
     ·simp [zL]
     ·split
      ·simp [zL]
      ·rename_i h1 h2 h3 h4 h5
       rw [if_neg h1, if_neg h2, if_neg h3, if_neg h4, if_neg h5] at h0;exact absurd rfl h0
set_option maxRecDepth 100000 in
set_option maxHeartbeats 16000000 in
theorem addK_is {X : WkX} {K : Nat} {w wx : World} (h : WK w K X wx) (e : EntV) (hb : NB X.d) (l : LD X.d) (hr : X.d.b.r = 3) (hM : X.M.length + 10 ≤ 1000000) (hR : X.R.length + 10 ≤ 1000000) : Calls Tryz.prog 93 #[.pointer (some ⟨K, 0, none⟩), .agg #[.int .i64 e.term, .int .i64 e.kind, .string e.text]] wx fun r w' => ∃ Y' : WkX, r = .returned (.int .i64 (addW X.v e).2) ∧ Y'.v = (addW X.v e).1 ∧ Y'.M.length ≤ X.M.length + 7 ∧ Y'.R.length ≤ X.R.length + 1 ∧ WK w K Y' w' := by
 have B0 := hideIt (And.intro (heap_alloc_new wx (.cells #[.int .i64 e.term, .int .i64 e.kind, .string e.text] 55)) (below1 wx (.cells #[.int .i64 e.term, .int .i64 e.kind, .string e.text] 55)));have HX := hideIt (h.keep B0.out.2);have hlen := add_len X.d.L e h.rows.sl;have HPUT := hideIt (fun h0 => put_nb (d := X.d) (e := e) hb l h0);have HAV : Hid (addW X.v e = if (addL X.d.L e).2 = 0 then (allW sendW (advW {tailW {X.v with d := {X.d with L := (addL X.d.L e).1}} (lastL (addL X.d.L e).1).1 with d := {X.d with L := (addL X.d.L e).1, mt := putN X.d.mt X.d.me (lastL (addL X.d.L e).1).1}}), 0) else (X.v, 102)) := hideIt rfl;have hKP : K ≠ wx.heap.size := by
  have := (Array.getElem?_eq_some_iff.1 h.box).1;omega
 clear h
 go_enter Tryz.func93, Tryz.ntmps93
 go_upto_region 1 with fail
 generalize hV0 : (World.alloc wx _) = V0 at *;generalize wx.heap.size = Q at *;have HCY : Hid (∀ W, Below V0.heap.size V0 W → Calls Tryz.prog 136 #[.agg #[.int .i64 X.d.L.bi, .int .i64 X.d.L.bt, .slice X.la X.d.L.l.length X.lc, .int .i64 X.d.L.cm], .agg #[.int .i64 e.term, .int .i64 e.kind, .string e.text]] W fun r w' => ∃ a c, r = .returned (.tuple #[.agg #[.int .i64 (addL X.d.L e).1.bi, .int .i64 (addL X.d.L e).1.bt, .slice a (addL X.d.L e).1.l.length c, .int .i64 (addL X.d.L e).1.cm], .int .i64 (addL X.d.L e).2]) ∧ Hid (w'.ownsRow V0.heap.size 55 3 (.slice a (addL X.d.L e).1.l.length c) (addL X.d.L e).1.l.length (entC (addL X.d.L e).1.l) ∧ Below V0.heap.size V0 w' ∧ Below W.heap.size W w') ∧ (w'.cell? ⟨K, 7, none⟩ = some (.int .i64 X.d.L.bi) ∧ w'.cell? ⟨K, 8, none⟩ = some (.int .i64 X.d.L.bt) ∧ w'.cell? ⟨K, 9, none⟩ = some (.slice X.la X.d.L.l.length X.lc) ∧ w'.cell? ⟨K, 10, none⟩ = some (.int .i64 X.d.L.cm) ∧ w'.cell? ⟨Q, 0, none⟩ = some (.int .i64 e.term) ∧ w'.cell? ⟨Q, 1, none⟩ = some (.int .i64 e.kind) ∧ w'.cell? ⟨Q, 2, none⟩ = some (.string e.text))) := by
  intro W hW;refine (add_is X.d.L X.gl e W (HX.out.keep hW).rows.at_.2).mono ?_;rintro r w' ⟨g, rfl, ho, hbl⟩;obtain ⟨a, c, rfl⟩ := own_len ho;have hb2 := below_via hW hbl;obtain ⟨⟨k0, k1, k2, k3, k4, k5, k6, k7, k8, k9, k10, k11, k12, k13, k14, k15, k16, k17⟩, kf, kz⟩ := at18 (HX.out.keep hb2).box;have hq := blkK B0.out.1 hb2
  exact ⟨a, c, rfl, hideIt ⟨own_base ho hW.size, hb2, hbl⟩, k7, k8, k9, k10, by rw [Tm.cell_at hq]; rfl, by rw [Tm.cell_at hq]; rfl, by rw [Tm.cell_at hq]; rfl⟩
 have ZF : Hid (∀ w', Below (V0.alloc (.cells #[.int .i64 0, .int .i64 0, .slice none 0 0, .int .i64 0] 36)).heap.size (V0.alloc (.cells #[.int .i64 0, .int .i64 0, .slice none 0 0, .int .i64 0] 36)) w' → (w'.cell? ⟨V0.heap.size, 0, none⟩ = some (.int .i64 0) ∧ w'.cell? ⟨V0.heap.size, 1, none⟩ = some (.int .i64 0) ∧ w'.cell? ⟨V0.heap.size, 2, none⟩ = some (.slice none 0 0) ∧ w'.cell? ⟨V0.heap.size, 3, none⟩ = some (.int .i64 0)) ∧ (∀ j, w'.frozen? ⟨V0.heap.size, j, none⟩ = false) ∧ V0.heap.size < w'.heap.size) := by
  intro w' hb;exact at4 ((hb.block V0.heap.size (by simp)).trans (heap_alloc_new V0 _))
 obtain ⟨⟨k0, k1, k2, k3, k4, k5, k6, k7, k8, k9, k10, k11, k12, k13, k14, k15, k16, k17⟩, kf, kz⟩ := at18 HX.out.box;have p0 : V0.cell? ⟨Q, 0, none⟩ = some (.int .i64 e.term) := by rw [Tm.cell_at B0.out.1]; rfl
 have p1 : V0.cell? ⟨Q, 1, none⟩ = some (.int .i64 e.kind) := by rw [Tm.cell_at B0.out.1]; rfl
 have p2 : V0.cell? ⟨Q, 2, none⟩ = some (.string e.text) := by rw [Tm.cell_at B0.out.1]; rfl
 have pz := (Array.getElem?_eq_some_iff.1 B0.out.1).1;have y1 : V0.heap.size ≠ K := by omega
 have y2 : V0.heap.size ≠ Q := by omega
 have y3 : K ≠ V0.heap.size := by omega
 have y4 : Q ≠ V0.heap.size := by omega
 clear k0 k1 k2 k3 k4 k5 k6 k11 k12 k13 k14 k15 k16 k17;generalize addL X.d.L e = Z at *
 go_cut [5, 6] from 8 to 16 (fun x y wy => ∃ P a c, x = .pointer (some ⟨P, 0, none⟩) ∧ y = .int .i64 Z.2 ∧ Hid (LBox V0 P Z.1 a c wy))
 case first =>
  go_region_held3 (fun W => W.cell? ⟨K, 7, none⟩ = some (.int .i64 X.d.L.bi) ∧ W.cell? ⟨K, 8, none⟩ = some (.int .i64 X.d.L.bt) ∧ W.cell? ⟨K, 9, none⟩ = some (.slice X.la X.d.L.l.length X.lc) ∧ W.cell? ⟨K, 10, none⟩ = some (.int .i64 X.d.L.cm) ∧ W.cell? ⟨Q, 0, none⟩ = some (.int .i64 e.term) ∧ W.cell? ⟨Q, 1, none⟩ = some (.int .i64 e.kind) ∧ W.cell? ⟨Q, 2, none⟩ = some (.string e.text)) (go_keep) (first | (go_at_call 136; refine (HCY.out (V0.alloc (.cells #[.int .i64 0, .int .i64 0, .slice none 0 0, .int .i64 0] 36)).drew (below1 _ _).drew).mono ?_; rintro r w5 ⟨a, c, rfl, HQ, ⟨i0, i1, i2, i3, i4, i5, i6⟩⟩; obtain ⟨⟨m0, m1, m2, m3⟩, mf, mz⟩ := ZF.out w5 (below_via (Below.refl _ _).drew HQ.out.2.2)) | (go_at_call 136; refine (HCY.out V0.drew (Below.refl _ _).drew).mono ?_; rintro r w5 ⟨a, c, rfl, HQ, ⟨i0, i1, i2, i3, i4, i5, i6⟩⟩))
  all_goals go_wp2_with fail
  all_goals go_meet
  ·exact ⟨w5.heap.size, a, c, rfl, rfl, hideIt (LBox.new HQ.out.1 HQ.out.2.1)⟩
  ·have hz := (HQ.out.2.2.block V0.heap.size (show V0.heap.size < (V0.alloc (.cells #[.int .i64 0, .int .i64 0, .slice none 0 0, .int .i64 0] 36)).heap.size by simp)).trans (heap_alloc_new V0 _)
   exact ⟨V0.heap.size, a, c, rfl, rfl, hideIt (LBox.put hz HQ.out.1 HQ.out.2.1 (Nat.le_refl _))⟩
 case rest =>
  obtain ⟨P, a, c, rfl, rfl, HB⟩ := hcut;clear HCY ZF p0 p1 p2 pz y1 y2 y3 y4 k7 k8 k9 k10 kf kz;obtain ⟨⟨m0, m1, m2, m3⟩, mf, mz⟩ := at4 HB.out.box;have HX1 := hideIt (HX.out.keep HB.out.bel)
  by_cases hz0 : Z.2 = 0
  ·have hz1 : (Z.2 == 0) = true := beq_iff_eq.2 hz0;rw [if_pos hz0] at HAV;obtain ⟨hnb, hld⟩ := HPUT.out hz0;have HX2 := hideIt (HX1.out.setLog Z.1 a c (own_base HB.out.own HX.out.bel.size) hlen);clear HPUT HX;obtain ⟨⟨k0, k1, k2, k3, k4, k5, k6, k7, k8, k9, k10, k11, k12, k13, k14, k15, k16, k17⟩, kf, kz⟩ := at18 HX1.out.box;have hPK : P ≠ K := by
    intro e1;have h1 := HX1.out.box;have h2 := HB.out.box;rw [e1, h1] at h2
    simp at h2
   go_upto_region 5 with fail
   generalize (World.setCell _ ⟨K, 10, none⟩ _) = W2 at *;have HL1 := hideIt (lastW_is HX2.out);clear k0 k1 k2 k3 k4 k5 k6 k7 k8 k9 k10 k11 k12 k13 k14 k15 k16 k17 kf kz m0 m1 m2 m3 mf mz hPK HB HX1
   go_wp2_with fail
   refine HL1.out.mono ?_;rintro r w3 ⟨rfl, hb3⟩;dsimp only;have hli := lastL_in Z.1;have HT := hideIt (keepTail_is (HX2.out.keep hb3) (lastL Z.1).1 (by unfold i64B; omega) (by simp only; omega))
   clear HL1 HX2 hb3
   go_wp2_with fail
   refine HT.out.mono ?_;rintro r w4 ⟨fa, fc, ra, rc, rfl, hw4⟩;dsimp only;have HX4 := hideIt hw4;clear HT hw4;generalize hF : fromL Z.1 (lastL Z.1).1 400 = F at *;have HY4 : Hid (WkX.v {X with d := {X.d with L := Z.1}, la := a, lc := c, R := X.R ++ [⟨⟨2, 0, 0, (lastL Z.1).1, F, 0, 0, noT⟩, fa, fc⟩], ra := ra, rc := rc} = tailW {X.v with d := {X.d with L := Z.1}} (lastL Z.1).1) := hideIt (by simp [WkX.v, tailW, hF]);generalize hY : ({X with d := {X.d with L := Z.1}, la := a, lc := c, R := X.R ++ [⟨⟨2, 0, 0, (lastL Z.1).1, F, 0, 0, noT⟩, fa, fc⟩], ra := ra, rc := rc} : WkX) = Y4 at *;have hYd : Y4.d = {X.d with L := Z.1} := by rw [← hY]
   have hYM : Y4.M = X.M := by rw [← hY]
   have hYR : Y4.R.length = X.R.length + 1 := by rw [← hY]; simp
   clear hY;have hml : Y4.d.mt.length = X.d.mt.length := by rw [hYd]
   have hmv := hb.me;have hmn := hb.n;have hm8 := l.ml;obtain ⟨j, hj⟩ : ∃ j : Nat, X.d.me = (j : Int) := ⟨X.d.me.toNat, by omega⟩;obtain ⟨g, hg, n0, nf, nz⟩ := HX4.out.rows.mcell j (by omega);obtain ⟨hcap1, hcap2, hgK⟩ : Y4.d.mt.length ≤ Y4.mc ∧ Y4.mc ≤ maxLen ∧ g ≠ K := by
    obtain ⟨_, ⟨hv, h0⟩ | ⟨g', cap, cur, hv, hB, hb, hn, hc, _, _⟩⟩ := HX4.out.rows.nd.m
    ·omega
    ·unfold WkX.gm at hv;rw [hg] at hv;simp only [Value.slice.injEq, Option.some.injEq, Addr.mk.injEq, and_true] at hv;refine ⟨by omega, by omega, fun e1 => ?_⟩;have h2 := HX4.out.box;rw [← e1, hv.1, hb] at h2
     simp at h2
   have hKg : K ≠ g := fun e1 => hgK e1.symm
   have HPM := hideIt (fun W (hW : Below w4.heap.size w4 W) => (HX4.out.keep hW).putM hg j (lastL Z.1).1);have HL2 : Hid (∀ W, Below w4.heap.size w4 W → Calls Tryz.prog 95 #[.pointer (some ⟨K, 0, none⟩)] W fun r w' => r = .returned (.int .i64 (lastL Z.1).1) ∧ Hid (Below w4.heap.size w4 w') ∧ (w'.cell? ⟨K, 0, none⟩ = some (.int .i64 (j : Int)) ∧ w'.cell? ⟨K, 13, none⟩ = some (.slice (some ⟨g, 0, none⟩) Y4.d.mt.length Y4.mc)) ∧ (w'.cell? ⟨g, j, none⟩ = some (.int .i64 (Y4.d.mt.getD j 0)) ∧ w'.frozen? ⟨g, j, none⟩ = false ∧ g < w'.heap.size ∧ K < w'.heap.size)) := by
    intro W hW;refine (lastW_is (HX4.out.keep hW)).mono ?_;rintro r w' ⟨rfl, hbl⟩;have hb2 := below_via hW hbl;obtain ⟨⟨k0, -, -, -, -, -, -, -, -, -, -, -, -, k13, -, -, -, -⟩, kf, kz⟩ := at18 (HX4.out.keep hb2).box;obtain ⟨g2, hg2, n2, nf2, nz2⟩ := (HX4.out.keep hb2).rows.mcell j (by omega);rw [hg] at hg2 k13;simp only [Option.some.injEq, Addr.mk.injEq, and_true] at hg2;subst hg2;rw [hYd] at k0;simp only [hj] at k0
    exact ⟨by rw [hYd], hideIt hb2, ⟨k0, k13⟩, n2, nf2, nz2, kz⟩
   obtain ⟨⟨k0, k1, k2, k3, k4, k5, k6, k7, k8, k9, k10, k11, k12, k13, k14, k15, k16, k17⟩, kf, kz⟩ := at18 HX4.out.box;rw [hg] at k13;rw [hYd] at k0;simp only [hj] at k0;clear k1 k2 k3 k4 k5 k6 k7 k8 k9 k10 k11 k12 k14 k15 k16 k17;have hme0 : (0 : Int) ≤ (j : Int) := by omega
   have hmel : (j : Int) < (Y4.d.mt.length : Int) := by omega
   generalize (lastL Z.1).1 = last at *;generalize Y4.d.mt.length = ml at *
   go_upto_region 6 with fail
   go_cut [] from 28 to 40 (fun wy => Hid (WK w K {Y4 with d := {Y4.d with mt := Y4.d.mt.set j last}} wy))
   case first =>
    clear HX4 HY4 HAV hml
    go_region_held3 (fun W => W.cell? ⟨K, 0, none⟩ = some (.int .i64 (j : Int)) ∧ W.cell? ⟨K, 13, none⟩ = some (.slice (some ⟨g, 0, none⟩) ml Y4.mc)) (go_keep) (first | (go_at_call 95; refine (HL2.out w4.drew (Below.refl _ _).drew).mono ?_; rintro r w5 ⟨rfl, HQ, ⟨i0, i1⟩, i5, i2, i3, i4⟩))
    all_goals go_wp2_with fail
    all_goals go_meet
    all_goals exact hideIt (HPM.out w5 HQ.out)
   case rest =>
    have HX5 := hideIt hcut.out;clear hcut HPM HL2 k0 k13 kf kz n0 nf nz HX4;have e5 : ({Y4 with d := {Y4.d with mt := Y4.d.mt.set j last}} : WkX).d = {X.d with L := Z.1, mt := putN X.d.mt X.d.me last} := by
     simp only
     rw [hYd];unfold putN;rw [show X.d.me.toNat = j by omega]
    generalize hY5 : ({Y4 with d := {Y4.d with mt := Y4.d.mt.set j last}} : WkX) = Y5 at *;have hM5 : Y5.M = X.M := by rw [← hY5]; exact hYM
    have hR5 : Y5.R.length = X.R.length + 1 := by rw [← hY5]; exact hYR
    have hv5 : Y5.v = {tailW {X.v with d := {X.d with L := Z.1}} last with d := {X.d with L := Z.1, mt := putN X.d.mt X.d.me last}} := by
     have h1 := HY4.out;rw [← e5, ← hY5];unfold WkX.v at h1 ⊢
     simp only
     rw [← h1]
    clear hY5;have HA := hideIt (advW_is HX5.out (by rw [e5]; simp only [putN, List.length_set]; omega))
    clear HX5 HY4
    go_wp2_with fail
    refine HA.out.mono ?_;rintro r w6 ⟨a6, c6, rfl, hw6⟩;dsimp only;have HX6 := hideIt hw6;clear HA hw6;have hadv := adv_nb hnb hld hr;generalize hY6 : ({Y5 with d := {Y5.d with L := (advL Y5.d.L Y5.d.b.t (Y5.d.mt.drop 1)).1}, la := a6, lc := c6} : WkX) = Y6 at *;have hv6 : Y6.v = advW Y5.v := by rw [← hY6]; rfl
    have hd6 : Y6.d = {X.d with L := (advL Z.1 X.d.b.t ((putN X.d.mt X.d.me last).drop 1)).1, mt := putN X.d.mt X.d.me last} := by
     rw [← hY6]
     simp only
     rw [e5]
    have hM6 : Y6.M = X.M := by rw [← hY6]; exact hM5
    have hR6 : Y6.R.length = X.R.length + 1 := by rw [← hY6]; exact hR5
    clear hY6;obtain ⟨hnb6, hld6⟩ := hadv;have hn6 : NB Y6.d := by rw [hd6]; exact hnb6
    have hl6 : LD Y6.d := by rw [hd6]; exact hld6
    have HE := hideIt (eachS_is (f := sendW) HX6.out hn6.n (by rw [hM6]; omega) (fun Y wy k hY hd hMl h1 h2 h3 => by
     have hh := hl6.nl;have hbk := hl6.nb k h1 (by omega);have hlas := las_in hn6.L;rw [← hd] at hbk hh hlas;rw [← hd] at h2;exact sendK_is hY k (by omega) (by omega) hMl))
    clear HX6
    go_wp2_with fail
    refine HE.out.mono ?_;rintro r w7 ⟨Y7, rfl, hv7, hd7, hM7, hR7, hw7⟩;dsimp only;have HX7 := hideIt hw7;clear HE hw7;go_wp2;go_ret;refine ⟨Y7, by rw [HAV.out]; rfl, ?_, by rw [hM6] at hM7; exact hM7, ?_, HX7.out⟩
    ·rw [HAV.out, hv7, hv6, hv5]
    ·rw [hR7, hR6];exact Nat.le_refl _
  ·have hz1 : (Z.2 == 0) = false := beq_eq_false_iff_ne.2 hz0;rw [if_neg hz0] at HAV;clear HPUT hz0;go_wp2;go_ret;refine ⟨X, ?_, ?_, by omega, by omega, HX1.out⟩
   ·rw [HAV.out]
    rfl
   ·rw [HAV.out]
theorem WkX.mlen (X : WkX) : X.v.ms.length = X.M.length := by simp [WkX.v]
theorem WkX.rlen (X : WkX) : X.v.rs.length = X.R.length := by simp [WkX.v]
theorem WkX.vd (X : WkX) : X.v.d = X.d := rfl
theorem flip_apart {a b : Option Nat} (h : a = none ∨ a ≠ b) : b = none ∨ b ≠ a := by
 rcases h with rfl | h
 ·cases b with
  | none => exact .inl rfl
  | some x => exact .inr (by simp)
 ·exact .inr h.symm
theorem WK.setLd {X : WkX} {K : Nat} {w wx : World} (h : WK w K X wx) (v : Int) : WK w K {X with d := {X.d with ld := v}} (wx.setCell ⟨K, 6, none⟩ (.int .i64 v)) :=
 h.put 6 _ rfl ⟨⟨h.rows.nd.b, h.rows.nd.l, h.rows.nd.n, h.rows.nd.m⟩, h.rows.rs, h.rows.ro, h.rows.ms, h.rows.mo, h.rows.nm, h.rows.nb, h.rows.mb, h.rows.sb, h.rows.sl, h.rows.sn, h.rows.sm, h.rows.st, h.rows.sr, h.rows.sq⟩
theorem WK.setTx {X : WkX} {K : Nat} {w wx : World} (h : WK w K X wx) (t : ByteArray) (ht : t.size ≤ 60000) : WK w K {X with d := {X.d with tx := t}} (wx.setCell ⟨K, 11, none⟩ (.string t)) :=
 h.put 11 _ rfl ⟨⟨h.rows.nd.b, h.rows.nd.l, h.rows.nd.n, h.rows.nd.m⟩, h.rows.rs, h.rows.ro, h.rows.ms, h.rows.mo, h.rows.nm, h.rows.nb, h.rows.mb, h.rows.sb, h.rows.sl, h.rows.sn, h.rows.sm, ht, h.rows.sr, h.rows.sq⟩
theorem WK.setIx {X : WkX} {K : Nat} {w wx : World} (h : WK w K X wx) (v : Int) : WK w K {X with ix := v} (wx.setCell ⟨K, 16, none⟩ (.int .i64 v)) :=
 h.put 16 _ rfl ⟨h.rows.nd, h.rows.rs, h.rows.ro, h.rows.ms, h.rows.mo, h.rows.nm, h.rows.nb, h.rows.mb, h.rows.sb, h.rows.sl, h.rows.sn, h.rows.sm, h.rows.st, h.rows.sr, h.rows.sq⟩
theorem WK.setWt {X : WkX} {K : Nat} {w wx : World} (h : WK w K X wx) (v : Bool) : WK w K {X with wt := v} (wx.setCell ⟨K, 17, none⟩ (.bool v)) :=
 h.put 17 _ rfl ⟨h.rows.nd, h.rows.rs, h.rows.ro, h.rows.ms, h.rows.mo, h.rows.nm, h.rows.nb, h.rows.mb, h.rows.sb, h.rows.sl, h.rows.sn, h.rows.sm, h.rows.st, h.rows.sr, h.rows.sq⟩
theorem WK.setNx {X : WkX} {K : Nat} {w wx : World} (h : WK w K X wx) (l : List Int) {n : Nat} (hn : l.length = n) (a : Option Addr) (c : Nat) (ho : wx.ownsRow w.heap.size 3 1 (.slice a n c) n (l.map Tm.iv)) (hl : n ≤ 1000000) (hm : (Value.slice a n c).ownBlock = none ∨ (Value.slice a n c).ownBlock ≠ X.gm.ownBlock) (hb : (Value.slice a n c).ownBlock = none ∨ (Value.slice a n c).ownBlock ≠ X.gb.ownBlock) : WK w K {X with d := {X.d with nx := l}, na := a, nc := c} (wx.setCell ⟨K, 12, none⟩ (.slice a n c)) := by
 subst hn;exact h.put 12 _ rfl ⟨⟨h.rows.nd.b, h.rows.nd.l, ho, h.rows.nd.m⟩, h.rows.rs, h.rows.ro, h.rows.ms, h.rows.mo, hm, hb, h.rows.mb, h.rows.sb, h.rows.sl, hl, h.rows.sm, h.rows.st, h.rows.sr, h.rows.sq⟩
theorem WK.setMt {X : WkX} {K : Nat} {w wx : World} (h : WK w K X wx) (l : List Int) {n : Nat} (hn : l.length = n) (a : Option Addr) (c : Nat) (ho : wx.ownsRow w.heap.size 3 1 (.slice a n c) n (l.map Tm.iv)) (hl : n ≤ 1000000) (hm : X.gn.ownBlock = none ∨ X.gn.ownBlock ≠ (Value.slice a n c).ownBlock) (hb : (Value.slice a n c).ownBlock = none ∨ (Value.slice a n c).ownBlock ≠ X.gb.ownBlock) : WK w K {X with d := {X.d with mt := l}, ma := a, mc := c} (wx.setCell ⟨K, 13, none⟩ (.slice a n c)) := by
 subst hn;exact h.put 13 _ rfl ⟨⟨h.rows.nd.b, h.rows.nd.l, h.rows.nd.n, ho⟩, h.rows.rs, h.rows.ro, h.rows.ms, h.rows.mo, hm, h.rows.nb, hb, h.rows.sb, h.rows.sl, h.rows.sn, hl, h.rows.st, h.rows.sr, h.rows.sq⟩
theorem WK.setR {X : WkX} {K : Nat} {w wx w' : World} (h : WK w K X wx) (R : List RecX) (a : Option Addr) (c : Nat) (hg : wx.grownBy w' (Value.slice X.ra X.R.length X.rc).ownBlock) (ho : w'.ownsRow w.heap.size 63 8 (.slice a R.length c) R.length (celC recE R)) (hx : ∀ x ∈ R, EntO w.heap.size wx x.a x.c x.r.es) (hs : R.length ≤ 1000000) : WK w K {X with R := R, ra := a, rc := c} (w'.setCell ⟨K, 14, none⟩ (.slice a R.length c)) := by
 have hr := h.rows;have hbox := box_type hg hr.rs h.box (by decide);have hW : WR w.heap.size w' {X with R := R, ra := a, rc := c} :=
  ⟨⟨own_type hg hr.rs hr.nd.b (by decide), own_type hg hr.rs hr.nd.l (by decide), own_type hg hr.rs hr.nd.n (by decide), own_type hg hr.rs hr.nd.m (by decide)⟩, ho, fun y hy => (hx y hy).kept hg hr.rs (by decide), own_type hg hr.rs hr.ms (by decide), fun y hy => (hr.mo y hy).kept hg hr.rs (by decide), hr.nm, hr.nb, hr.mb, hr.sb, hr.sl, hr.sn, hr.sm, hr.st, hs, hr.sq⟩
 have hh := heap_set hbox 14 (.slice a R.length c);refine ⟨?_, hW.cell hbox (by decide) (by decide) (by decide) (by decide), h.hK, belowSet _ (below_out h.bel (Out.ofGrown (F := fun k => w.heap.size ≤ k) hg (fun k hk => (hr.rs.lt k hk).1)) (fun _ h => h)) h.hK⟩;rw [hh]
 rfl
theorem made_own (W : World) (B m : Nat) (Z : Array Value) (hB : B ≤ W.heap.size) (hs : Z.size = m) (hm : m ≤ maxLen) : (W.alloc (.cells Z 3)).ownsRow B 3 1 (.slice (some ⟨W.heap.size, 0, none⟩) m m) m Z.toList :=
 ⟨by rw [Array.length_toList, hs, Nat.mul_one], .inr ⟨W.heap.size, m, Z, rfl, hB, heap_alloc_new W _, Nat.le_refl _, hm, by rw [hs, Nat.mul_one], by rw [Nat.mul_one, List.take_of_length_le]; rw [Array.length_toList, hs]; exact Nat.le_refl _⟩⟩
end Go.Proofs.YtcaehfkfohianaaGreat
