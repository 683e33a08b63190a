/- A key is asked for: plain data, and what lies in memory on the way. -/
import Derived.Test.YtilinemcmgjiiaaDoorLst
namespace Go.Proofs.YtilinemcmgjiiaaDoor
open Go.RowKit
set_option linter.all false
/-- The boxes that a call has made first. -/
structure Bx (w : World) (os : List Obj) (wx : World) : Prop where
  at_ : ∀ i, i < os.length → wx.heap[w.heap.size + i]? = os[i]?
  bel : Below w.heap.size w wx
  size : w.heap.size + os.length ≤ wx.heap.size
theorem Bx.first (w : World) (os : List Obj) : Bx w os (os.foldl World.alloc w) := ⟨(allocs_at os w).2.2, (allocs_at os w).2.1, by rw [(allocs_at os w).1]; omega⟩
theorem Bx.keep {w wx wy : World} {os : List Obj} (h : Bx w os wx) (hb : Below wx.heap.size wx wy) : Bx w os wy :=
  ⟨fun i hi => (hb.block _ (by have := h.size; omega)).trans (h.at_ i hi), below_via h.bel hb, Nat.le_trans h.size hb.size⟩
theorem Bx.c {w wx : World} {os : List Obj} (h : Bx w os wx) (i j : Nat) {cs : Array Value} {t : TypeId} {u : Value} (ho : os[i]? = some (.cells cs t (0, 0))) (hu : cs[j]? = some u) : wx.cell? ⟨w.heap.size + i, j, none⟩ = some u := by
  rw [cell_at ((h.at_ i (List.getElem?_eq_some_iff.1 ho).1).trans ho), hu]
theorem Bx.f {w wx : World} {os : List Obj} (h : Bx w os wx) (i j : Nat) {cs : Array Value} {t : TypeId} (ho : os[i]? = some (.cells cs t (0, 0))) : wx.frozen? ⟨w.heap.size + i, j, none⟩ = false :=
  free_at ((h.at_ i (List.getElem?_eq_some_iff.1 ho).1).trans ho) j
def zTab : TabV := ⟨[], []⟩
/-- What asking gives. -/
def askL (T : TabV) (k : KeyV) (t : TxnV) : TabV × Bool × Int :=
  if refE T k t = 0 then
    if (hdT T.held k == t) = true ∨ 0 < (qL T.wait k).count t then (T, hdT T.held k == t, 0)
    else if T.held.length + T.wait.length = 200 ∨ (qL T.wait k).length = 4 then (zTab, false, 161)
    else if (hdT T.held k == zT) = true then (⟨T.held ++ [(k, t)], T.wait⟩, true, 0) else (⟨T.held, T.wait ++ [(k, t)]⟩, false, 0)
  else (zTab, false, refE T k t)
/-- A table of the call's own comes back. -/
structure TabOwn (B : Nat) (T : TabV) (h v : Value) (w : World) : Prop where
  oh : w.ownsRow B 155 4 h T.held.length (celC holE T.held)
  ov : w.ownsRow B 155 4 v T.wait.length (celC holE T.wait)
def AskBack (X : TabV × Bool × Int) (w : World) (e : Ending) (w' : World) : Prop := ∃ h v, e = .returned (.tuple #[.agg #[h, v], .bool X.2.1, .int .i64 X.2.2]) ∧ TabOwn w.heap.size X.1 h v w' ∧ Below w.heap.size w w'
theorem zOwn (B : Nat) (w : World) : TabOwn B zTab (.slice none 0 0) (.slice none 0 0) w := ⟨own_nil _ _, own_nil _ _⟩
/-- What a copy has brought. -/
structure CS (W : World) (l : List HoldV) (v : Value) (w' : World) : Prop where
  own : w'.ownsRow W.heap.size 155 4 v l.length (celC holE l)
  bel : Below W.heap.size W w'
theorem two_at {w : World} {p : Nat} {z0 z1 : Value} {t : TypeId} (h : w.heap[p]? = some (.cells #[z0, z1] t (0, 0))) : w.cell? ⟨p, 0, none⟩ = some z0 ∧ w.cell? ⟨p, 1, none⟩ = some z1 ∧ w.frozen? ⟨p, 0, none⟩ = false ∧ w.frozen? ⟨p, 1, none⟩ = false ∧ p < w.heap.size :=
  ⟨by rw [cell_at h]; rfl, by rw [cell_at h]; rfl, free_at h 0, free_at h 1, (Array.getElem?_eq_some_iff.1 h).1⟩
/-- A new table in its box, the others as they were. -/
structure AQ (w : World) (os : List Obj) (K : Nat) (cs : Array Value) (t : TypeId) (T : TabV) (P : Nat) (h v : Value) (wx : World) : Prop where
  bx : Bx w os wx
  hk : wx.heap[K]? = some (.cells cs t (0, 0))
  box : wx.heap[P]? = some (.cells #[h, v] 140 (0, 0))
  own : TabOwn (w.heap.size + os.length) T h v wx
  sep : h.ownBlock = none ∨ h.ownBlock ≠ v.ownBlock
  lP : w.heap.size + os.length ≤ P
  ne : K ≠ P
theorem own_cell {w : World} {B D j : Nat} {e t : TypeId} {z n : Nat} {v u : Value} {xs : List Value} {cs : Array Value} (ho : w.ownsRow B e z v n xs) (hd : w.heap[D]? = some (.cells cs t (0, 0))) (hne : e ≠ t) : (w.setCell ⟨D, j, none⟩ u).ownsRow B e z v n xs := by
  obtain ⟨h1, hn | ⟨g, cap, cur, hv, hb, hg, rest⟩⟩ := ho
  · exact ⟨h1, .inl hn⟩
  · refine ⟨h1, .inr ⟨g, cap, cur, hv, hb, (heap_set_other _ _ _ _ _ (fun e => ?_)).trans hg, rest⟩⟩
    rw [e, hd] at hg
    simp at hg
    exact hne hg.2.symm
theorem AQ.put {w W : World} {os : List Obj} {K : Nat} {cs : Array Value} {t : TypeId} {T : TabV} {P : Nat} {h v z0 z1 : Value} (bx : Bx w os W) (hk : W.heap[K]? = some (.cells cs t (0, 0))) (box : W.heap[P]? = some (.cells #[z0, z1] 140 (0, 0))) (own : TabOwn (w.heap.size + os.length) T h v W) (sep : h.ownBlock = none ∨ h.ownBlock ≠ v.ownBlock) (lP : w.heap.size + os.length ≤ P) (ne : K ≠ P) : AQ w os K cs t T P h v ((W.setCell ⟨P, 0, none⟩ h).setCell ⟨P, 1, none⟩ v) :=
  ⟨⟨fun i hi => (heap_set_other _ _ _ _ _ (by omega)).trans ((heap_set_other _ _ _ _ _ (by omega)).trans (bx.at_ i hi)), belowSet _ (belowSet _ bx.bel (by omega)) (by omega), by simpa using bx.size⟩, setOther _ (setOther _ hk ne) ne, put2 box h v,
    ⟨own_cell (own_cell own.oh box (by decide)) (heap_set box 0 h) (by decide), own_cell (own_cell own.ov box (by decide)) (heap_set box 0 h) (by decide)⟩, sep, lP, ne⟩
theorem TabOwn.two {w W1 W2 w4 w5 : World} {B : Nat} {T : TabV} {h v : Value} (h4 : CS W1 T.held h w4) (h5 : CS W2 T.wait v w5) (h24 : Below w4.heap.size w4 W2) (hB : B ≤ W1.heap.size) : TabOwn B T h v w5 ∧ (h.ownBlock = none ∨ h.ownBlock ≠ v.ownBlock) := by
  refine ⟨⟨own_base (own_keep (own_keep h4.own h24) h5.bel) hB, own_base h5.own (Nat.le_trans hB (Nat.le_trans h4.bel.size h24.size))⟩, ?_⟩
  rcases hq : h.ownBlock with _ | b
  · exact .inl rfl
  · refine .inr (fun e => ?_)
    have h1 := (h4.own.lt b hq).2
    have h2 := (h5.own.lt b e.symm).1
    have := h24.size
    omega
theorem box_type {w w' : World} {B D : Nat} {e t : TypeId} {z n : Nat} {v : Value} {xs : List Value} {cs : Array Value} (h : w.grownBy w' v.ownBlock) (ho : w.ownsRow B e z v n xs) (hd : w.heap[D]? = some (.cells cs t (0, 0))) (hne : e ≠ t) : w'.heap[D]? = some (.cells cs t (0, 0)) := by
  refine (h.block D (Array.getElem?_eq_some_iff.1 hd).1 (fun e => ?_)).trans hd
  obtain ⟨_, ⟨rfl, _⟩ | ⟨g2, cap2, cur2, rfl, hg2, hc2, _⟩⟩ := ho
  · cases e
  · simp only [Value.ownBlock, Option.some.injEq] at e
    subst e
    rw [hd] at hc2
    simp at hc2
    exact hne hc2.2.symm
theorem Bx.drew {w wx : World} {os : List Obj} (h : Bx w os wx) : Bx w os wx.drew := h.keep (Below.refl _ wx).drew
theorem AQ.o3 {w w3 w4 w5 : World} {os : List Obj} {K : Nat} {cs : Array Value} {t : TypeId} {T : TabV} {h v : Value} (bx : Bx w os w3) (hk : w3.heap[K]? = some (.cells cs t (0, 0))) (h4 : CS w3.drew T.held h w4) (h5 : CS w4 T.wait v w5) : AQ w os K cs t T w5.heap.size h v (w5.alloc (.cells #[h, v] 140)) := by
  have hKl := (Array.getElem?_eq_some_iff.1 hk).1
  have hs := bx.size
  have b0 : Below w3.heap.size w3 w3.drew := (Below.refl _ w3).drew
  have b45 := below_via h4.bel h5.bel
  have b35 := below_via b0 b45
  have hT := TabOwn.two (w := w) (B := w.heap.size + os.length) h4 h5 (Below.refl _ _) hs
  have b6 := below1 w5 (.cells #[h, v] 140)
  have s5 := b35.size
  exact ⟨(bx.keep b35).keep b6, (b6.block _ (by omega)).trans ((b35.block _ hKl).trans hk), heap_alloc_new w5 _, ⟨own_keep hT.1.oh b6, own_keep hT.1.ov b6⟩, hT.2, by omega, by omega⟩
theorem AQ.o2 {w w3 w4 w5 : World} {os : List Obj} {K : Nat} {cs : Array Value} {t : TypeId} {T : TabV} {h v : Value} (bx : Bx w os w3) (hk : w3.heap[K]? = some (.cells cs t (0, 0))) (h4 : CS w3.drew T.held h w4) (h5 : CS (w4.alloc (.cells #[.slice none 0 0, .slice none 0 0] 140)) T.wait v w5) : AQ w os K cs t T w4.heap.size h v ((w5.setCell ⟨w4.heap.size, 0, none⟩ h).setCell ⟨w4.heap.size, 1, none⟩ v) := by
  have hKl := (Array.getElem?_eq_some_iff.1 hk).1
  have hs := bx.size
  have b0 : Below w3.heap.size w3 w3.drew := (Below.refl _ w3).drew
  have b4 := below1 w4 (.cells #[.slice none 0 0, .slice none 0 0] 140)
  have b34 := below_via b0 h4.bel
  have b35 := below_via b34 (below_via b4 h5.bel)
  have hT := TabOwn.two (w := w) (B := w.heap.size + os.length) h4 h5 b4 hs
  have s4 := b34.size
  exact AQ.put (bx.keep b35) ((b35.block _ hKl).trans hk) ((h5.bel.block _ (by simp)).trans (heap_alloc_new w4 _)) hT.1 hT.2 (by omega) (by omega)
theorem AQ.o1 {w w3 w4 w5 : World} {os : List Obj} {K : Nat} {cs : Array Value} {t : TypeId} {T : TabV} {h v : Value} (bx : Bx w os w3) (hk : w3.heap[K]? = some (.cells cs t (0, 0))) (h4 : CS (w3.drew.alloc (.cells #[.slice none 0 0, .slice none 0 0] 140)) T.held h w4) (h5 : CS w4 T.wait v w5) : AQ w os K cs t T w3.heap.size h v ((w5.setCell ⟨w3.heap.size, 0, none⟩ h).setCell ⟨w3.heap.size, 1, none⟩ v) := by
  have hKl := (Array.getElem?_eq_some_iff.1 hk).1
  have hs := bx.size
  have b0 : Below w3.heap.size w3 w3.drew := (Below.refl _ w3).drew
  have b3 := below1 w3.drew (.cells #[.slice none 0 0, .slice none 0 0] 140)
  have b35 := below_via b0 (below_via b3 (below_via h4.bel h5.bel))
  have s3 := b3.size
  have hT := TabOwn.two (w := w) (B := w.heap.size + os.length) h4 h5 (Below.refl _ _) (by have : w3.drew.heap.size = w3.heap.size := rfl; omega)
  have hP : w5.heap[w3.heap.size]? = some (.cells #[.slice none 0 0, .slice none 0 0] 140 (0, 0)) := (h5.bel.block _ (by have := h4.bel.size; simp at this; omega)).trans ((h4.bel.block _ (by simp)).trans (heap_alloc_new w3.drew _))
  exact AQ.put (bx.keep b35) ((b35.block _ hKl).trans hk) hP hT.1 hT.2 (by omega) (by omega)
theorem AQ.keep {w wx wy : World} {os : List Obj} {K : Nat} {cs : Array Value} {t : TypeId} {T : TabV} {P : Nat} {h v : Value} (a : AQ w os K cs t T P h v wx) (hb : Below wx.heap.size wx wy) : AQ w os K cs t T P h v wy :=
  ⟨a.bx.keep hb, (hb.block _ (Array.getElem?_eq_some_iff.1 a.hk).1).trans a.hk, (hb.block _ (Array.getElem?_eq_some_iff.1 a.box).1).trans a.box, ⟨own_keep a.own.oh hb, own_keep a.own.ov hb⟩, a.sep, a.lP, a.ne⟩
/-- A table that is to be handed back. -/
structure AR (w : World) (os : List Obj) (T : TabV) (P : Nat) (h v : Value) (wx : World) : Prop where
  bx : Bx w os wx
  box : wx.heap[P]? = some (.cells #[h, v] 140 (0, 0))
  own : TabOwn (w.heap.size + os.length) T h v wx
theorem AQ.ar {w wx : World} {os : List Obj} {K : Nat} {cs : Array Value} {t : TypeId} {T : TabV} {P : Nat} {h v : Value} (a : AQ w os K cs t T P h v wx) : AR w os T P h v wx := ⟨a.bx, a.box, a.own⟩
theorem AR.ret {w wx : World} {os : List Obj} {T : TabV} {P : Nat} {h v z0 z1 : Value} (a : AR w os T P h v wx) (ho : os[3]? = some (.cells #[z0, z1] 140 (0, 0))) :
    ((wx.setCell ⟨w.heap.size + 3, 0, none⟩ h).setCell ⟨w.heap.size + 3, 1, none⟩ v).heap[w.heap.size + 3]? = some (.cells #[h, v] 140 (0, 0)) ∧ TabOwn w.heap.size T h v ((wx.setCell ⟨w.heap.size + 3, 0, none⟩ h).setCell ⟨w.heap.size + 3, 1, none⟩ v) ∧ Below w.heap.size w ((wx.setCell ⟨w.heap.size + 3, 0, none⟩ h).setCell ⟨w.heap.size + 3, 1, none⟩ v) := by
  have hb := (a.bx.at_ 3 (List.getElem?_eq_some_iff.1 ho).1).trans ho
  exact ⟨put2 hb h v, ⟨own_base (own_cell (own_cell a.own.oh hb (by decide)) (heap_set hb 0 h) (by decide)) (by omega), own_base (own_cell (own_cell a.own.ov hb (by decide)) (heap_set hb 0 h) (by decide)) (by omega)⟩, belowSet _ (belowSet _ a.bx.bel (by omega)) (by omega)⟩
theorem Bx.grown {w W w' : World} {os : List Obj} {B n z : Nat} {e : TypeId} {v : Value} {xs : List Value} (h : Bx w os W) (hg : W.grownBy w' v.ownBlock) (ho : W.ownsRow (w.heap.size + os.length) e z v n xs) : Bx w os w' :=
  ⟨fun i hi => (hg.block _ (by have := h.size; omega) (fun e => by have := (ho.lt _ e.symm).1; omega)).trans (h.at_ i hi), grown_own hg ho (by omega) h.bel, Nat.le_trans h.size hg.size⟩
/-- One more behind what is held. -/
theorem AQ.appH {w W : World} {os : List Obj} {K : Nat} {cs : Array Value} {t : TypeId} {T : TabV} {P b c : Nat} {h v : Value} {x : HoldV} (a : AQ w os K cs t T P h v W) (hb : W.heap[b]? = some (.cells (holE x).toArray 155 (0, 0))) (hl : T.held.length ≤ 1000) :
    ∃ a' c' w', (Builtin.append_ #[138, 138] 138 #[h, .slice (some ⟨b, 0, none⟩) 1 c]).run Tryd.prog W = .ok (.slice a' (T.held.length + 1) c') w' ∧ AR w os ⟨T.held ++ [x], T.wait⟩ P (.slice a' (T.held.length + 1) c') v (w'.setCell ⟨P, 0, none⟩ (.slice a' (T.held.length + 1) c')) ∧ w'.cell? ⟨P, 0, none⟩ = some h ∧ w'.cell? ⟨P, 1, none⟩ = some v ∧ w'.frozen? ⟨P, 0, none⟩ = false ∧ P < w'.heap.size := by
  obtain ⟨v', w', hrun, how, hgr⟩ := app1 (enc := holE) (t := 138) holK hol1 Tryd.underlying138 info44 rfl (by omega) W (w.heap.size + os.length) h T.held x b c a.bx.size a.own.oh hb (by omega) (by unfold maxLen; omega)
  obtain ⟨a', c', rfl⟩ := own_len how
  have hlen : (T.held ++ [x]).length = T.held.length + 1 := by simp
  rw [hlen] at how hrun
  have hbx := box_type hgr a.own.oh a.box (by decide)
  have hk2 : v.ownBlock = none ∨ v.ownBlock ≠ h.ownBlock := by
    rcases a.sep with e | e
    · rw [e]
      rcases hv : v.ownBlock with _ | q
      · exact .inl rfl
      · exact .inr (by simp)
    · exact .inr (fun x => e x.symm)
  have hbw : Bx w os w' := a.bx.grown (B := 0) hgr a.own.oh
  refine ⟨a', c', w', hrun, ⟨⟨fun i hi => (heap_set_other _ _ _ _ _ (by have := a.lP; omega)).trans (hbw.at_ i hi), belowSet _ hbw.bel (by have := a.lP; omega), by simpa using hbw.size⟩, heap_set hbx 0 _, ⟨own_cell (by rw [hlen]; exact how) hbx (by decide), own_cell (a.own.ov.kept hgr hk2) hbx (by decide)⟩⟩, by rw [cell_at hbx]; rfl, by rw [cell_at hbx]; rfl, free_at hbx 0, (Array.getElem?_eq_some_iff.1 hbx).1⟩
/-- One more behind those that wait. -/
theorem AQ.appV {w W : World} {os : List Obj} {K : Nat} {cs : Array Value} {t : TypeId} {T : TabV} {P b c : Nat} {h v : Value} {x : HoldV} (a : AQ w os K cs t T P h v W) (hb : W.heap[b]? = some (.cells (holE x).toArray 155 (0, 0))) (hl : T.wait.length ≤ 1000) :
    ∃ a' c' w', (Builtin.append_ #[138, 138] 138 #[v, .slice (some ⟨b, 0, none⟩) 1 c]).run Tryd.prog W = .ok (.slice a' (T.wait.length + 1) c') w' ∧ AR w os ⟨T.held, T.wait ++ [x]⟩ P h (.slice a' (T.wait.length + 1) c') (w'.setCell ⟨P, 1, none⟩ (.slice a' (T.wait.length + 1) c')) ∧ w'.cell? ⟨P, 0, none⟩ = some h ∧ w'.cell? ⟨P, 1, none⟩ = some v ∧ w'.frozen? ⟨P, 1, none⟩ = false ∧ P < w'.heap.size := by
  obtain ⟨v', w', hrun, how, hgr⟩ := app1 (enc := holE) (t := 138) holK hol1 Tryd.underlying138 info44 rfl (by omega) W (w.heap.size + os.length) v T.wait x b c a.bx.size a.own.ov hb (by omega) (by unfold maxLen; omega)
  obtain ⟨a', c', rfl⟩ := own_len how
  have hlen : (T.wait ++ [x]).length = T.wait.length + 1 := by simp
  rw [hlen] at how hrun
  have hbx := box_type hgr a.own.ov a.box (by decide)
  have hbw : Bx w os w' := a.bx.grown (B := 0) hgr a.own.ov
  refine ⟨a', c', w', hrun, ⟨⟨fun i hi => (heap_set_other _ _ _ _ _ (by have := a.lP; omega)).trans (hbw.at_ i hi), belowSet _ hbw.bel (by have := a.lP; omega), by simpa using hbw.size⟩, heap_set hbx 1 _, ⟨own_cell (a.own.oh.kept hgr a.sep) hbx (by decide), own_cell (by rw [hlen]; exact how) hbx (by decide)⟩⟩, by rw [cell_at hbx]; rfl, by rw [cell_at hbx]; rfl, free_at hbx 1, (Array.getElem?_eq_some_iff.1 hbx).1⟩
end Go.Proofs.YtilinemcmgjiiaaDoor
