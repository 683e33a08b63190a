/- Texts of my own, laid together. -/
import Derived.Test.YtiinigifjdpicaaGreatDoorMc03
namespace Go.Proofs.YtiinigifjdpicaaGreatDoor.Se
open Go.RowKit
set_option linter.all false
structure Bx (w : World) (os : List Obj) (wx : World) : Prop where
 at_ : ∀ i, i < os.length → wx.heap[w.heap.size + i]? = os[i]?
 bel : Below w.heap.size w wx
 size : w.heap.size + os.length ≤ wx.heap.size
theorem Bx.first (w : World) (os : List Obj) : Bx w os (os.foldl World.alloc w) := ⟨(allocs_at os w).2.2, (allocs_at os w).2.1, by rw [(allocs_at os w).1]; omega⟩
theorem Bx.keep {w wx wy : World} {os : List Obj} (h : Bx w os wx) (hb : Below wx.heap.size wx wy) : Bx w os wy :=
 ⟨fun i hi => (hb.block _ (by have := h.size; omega)).trans (h.at_ i hi), below_via h.bel hb, Nat.le_trans h.size hb.size⟩
theorem Bx.c {w wx : World} {os : List Obj} (h : Bx w os wx) (i j : Nat) {cs : Array Value} {t : TypeId} {u : Value} (ho : os[i]? = some (.cells cs t (0, 0))) (hu : cs[j]? = some u) : wx.cell? ⟨w.heap.size + i, j, none⟩ = some u := by
 rw [cell_at ((h.at_ i (List.getElem?_eq_some_iff.1 ho).1).trans ho), hu]
theorem Bx.f {w wx : World} {os : List Obj} (h : Bx w os wx) (i j : Nat) {cs : Array Value} {t : TypeId} (ho : os[i]? = some (.cells cs t (0, 0))) : wx.frozen? ⟨w.heap.size + i, j, none⟩ = false :=
 free_at ((h.at_ i (List.getElem?_eq_some_iff.1 ho).1).trans ho) j
def zTab : TabV := ⟨[], []⟩
def askL (T : TabV) (k : KeyV) (t : TxnV) : TabV × Bool × Int :=
 if refE T k t = 0 then
  if (hdT T.held k == t) = true ∨ 0 < (qL T.wait k).count t then (T, hdT T.held k == t, 0)
  else if T.held.length + T.wait.length = 200 ∨ (qL T.wait k).length = 4 then (zTab, false, 161)
  else if (hdT T.held k == zT) = true then (⟨T.held ++ [(k, t)], T.wait⟩, true, 0) else (⟨T.held, T.wait ++ [(k, t)]⟩, false, 0)
 else (zTab, false, refE T k t)
structure TabOwn (B : Nat) (T : TabV) (h v : Value) (w : World) : Prop where
 oh : w.ownsRow B 166 4 h T.held.length (celC holE T.held)
 ov : w.ownsRow B 166 4 v T.wait.length (celC holE T.wait)
def AskBack (X : TabV × Bool × Int) (w : World) (e : Ending) (w' : World) : Prop := ∃ h v, e = .returned (.tuple #[.agg #[h, v], .bool X.2.1, .int .i64 X.2.2]) ∧ TabOwn w.heap.size X.1 h v w' ∧ Below w.heap.size w w'
theorem zOwn (B : Nat) (w : World) : TabOwn B zTab (.slice none 0 0) (.slice none 0 0) w := ⟨own_nil _ _, own_nil _ _⟩
structure CS (W : World) (l : List HoldV) (v : Value) (w' : World) : Prop where
 own : w'.ownsRow W.heap.size 166 4 v l.length (celC holE l)
 bel : Below W.heap.size W w'
theorem two_at {w : World} {p : Nat} {z0 z1 : Value} {t : TypeId} (h : w.heap[p]? = some (.cells #[z0, z1] t (0, 0))) : w.cell? ⟨p, 0, none⟩ = some z0 ∧ w.cell? ⟨p, 1, none⟩ = some z1 ∧ w.frozen? ⟨p, 0, none⟩ = false ∧ w.frozen? ⟨p, 1, none⟩ = false ∧ p < w.heap.size :=
 ⟨by rw [cell_at h]; rfl, by rw [cell_at h]; rfl, free_at h 0, free_at h 1, (Array.getElem?_eq_some_iff.1 h).1⟩
structure AQ (w : World) (os : List Obj) (K : Nat) (cs : Array Value) (t : TypeId) (T : TabV) (P : Nat) (h v : Value) (wx : World) : Prop where
 bx : Bx w os wx
 hk : wx.heap[K]? = some (.cells cs t (0, 0))
 box : wx.heap[P]? = some (.cells #[h, v] 125 (0, 0))
 own : TabOwn (w.heap.size + os.length) T h v wx
 sep : h.ownBlock = none ∨ h.ownBlock ≠ v.ownBlock
 lP : w.heap.size + os.length ≤ P
 ne : K ≠ P
theorem own_cell {w : World} {B D j : Nat} {e t : TypeId} {z n : Nat} {v u : Value} {xs : List Value} {cs : Array Value} (ho : w.ownsRow B e z v n xs) (hd : w.heap[D]? = some (.cells cs t (0, 0))) (hne : e ≠ t) : (w.setCell ⟨D, j, none⟩ u).ownsRow B e z v n xs := by
 obtain ⟨h1, hn | ⟨g, cap, cur, hv, hb, hg, rest⟩⟩ := ho
 ·exact ⟨h1, .inl hn⟩
 ·refine ⟨h1, .inr ⟨g, cap, cur, hv, hb, (heap_set_other _ _ _ _ _ (fun e => ?_)).trans hg, rest⟩⟩;rw [e, hd] at hg
  simp at hg
  exact hne hg.2.symm
theorem AQ.put {w W : World} {os : List Obj} {K : Nat} {cs : Array Value} {t : TypeId} {T : TabV} {P : Nat} {h v z0 z1 : Value} (bx : Bx w os W) (hk : W.heap[K]? = some (.cells cs t (0, 0))) (box : W.heap[P]? = some (.cells #[z0, z1] 125 (0, 0))) (own : TabOwn (w.heap.size + os.length) T h v W) (sep : h.ownBlock = none ∨ h.ownBlock ≠ v.ownBlock) (lP : w.heap.size + os.length ≤ P) (ne : K ≠ P) : AQ w os K cs t T P h v ((W.setCell ⟨P, 0, none⟩ h).setCell ⟨P, 1, none⟩ v) :=
 ⟨⟨fun i hi => (heap_set_other _ _ _ _ _ (by omega)).trans ((heap_set_other _ _ _ _ _ (by omega)).trans (bx.at_ i hi)), belowSet _ (belowSet _ bx.bel (by omega)) (by omega), by simpa using bx.size⟩, setOther _ (setOther _ hk ne) ne, put2 box h v,
  ⟨own_cell (own_cell own.oh box (by decide)) (heap_set box 0 h) (by decide), own_cell (own_cell own.ov box (by decide)) (heap_set box 0 h) (by decide)⟩, sep, lP, ne⟩
theorem TabOwn.two {w W1 W2 w4 w5 : World} {B : Nat} {T : TabV} {h v : Value} (h4 : CS W1 T.held h w4) (h5 : CS W2 T.wait v w5) (h24 : Below w4.heap.size w4 W2) (hB : B ≤ W1.heap.size) : TabOwn B T h v w5 ∧ (h.ownBlock = none ∨ h.ownBlock ≠ v.ownBlock) := by
 refine ⟨⟨own_base (own_keep (own_keep h4.own h24) h5.bel) hB, own_base h5.own (Nat.le_trans hB (Nat.le_trans h4.bel.size h24.size))⟩, ?_⟩
 rcases hq : h.ownBlock with _ | b
 ·exact .inl rfl
 ·refine .inr (fun e => ?_);have h1 := (h4.own.lt b hq).2;have h2 := (h5.own.lt b e.symm).1;have := h24.size;omega
theorem box_type {w w' : World} {B D : Nat} {e t : TypeId} {z n : Nat} {v : Value} {xs : List Value} {cs : Array Value} (h : w.grownBy w' v.ownBlock) (ho : w.ownsRow B e z v n xs) (hd : w.heap[D]? = some (.cells cs t (0, 0))) (hne : e ≠ t) : w'.heap[D]? = some (.cells cs t (0, 0)) := by
 refine (h.block D (Array.getElem?_eq_some_iff.1 hd).1 (fun e => ?_)).trans hd;obtain ⟨_, ⟨rfl, _⟩ | ⟨g2, cap2, cur2, rfl, hg2, hc2, _⟩⟩ := ho
 ·cases e
 ·simp only [Value.ownBlock, Option.some.injEq] at e;subst e;rw [hd] at hc2
  simp at hc2
  exact hne hc2.2.symm
theorem Bx.drew {w wx : World} {os : List Obj} (h : Bx w os wx) : Bx w os wx.drew := h.keep (Below.refl _ wx).drew
theorem AQ.o3 {w w3 w4 w5 : World} {os : List Obj} {K : Nat} {cs : Array Value} {t : TypeId} {T : TabV} {h v : Value} (bx : Bx w os w3) (hk : w3.heap[K]? = some (.cells cs t (0, 0))) (h4 : CS w3.drew T.held h w4) (h5 : CS w4 T.wait v w5) : AQ w os K cs t T w5.heap.size h v (w5.alloc (.cells #[h, v] 125)) := by
 have hKl := (Array.getElem?_eq_some_iff.1 hk).1;have hs := bx.size;have b0 : Below w3.heap.size w3 w3.drew := (Below.refl _ w3).drew;have b45 := below_via h4.bel h5.bel;have b35 := below_via b0 b45;have hT := TabOwn.two (w := w) (B := w.heap.size + os.length) h4 h5 (Below.refl _ _) hs;have b6 := below1 w5 (.cells #[h, v] 125);have s5 := b35.size
 exact ⟨(bx.keep b35).keep b6, (b6.block _ (by omega)).trans ((b35.block _ hKl).trans hk), heap_alloc_new w5 _, ⟨own_keep hT.1.oh b6, own_keep hT.1.ov b6⟩, hT.2, by omega, by omega⟩
theorem AQ.o2 {w w3 w4 w5 : World} {os : List Obj} {K : Nat} {cs : Array Value} {t : TypeId} {T : TabV} {h v : Value} (bx : Bx w os w3) (hk : w3.heap[K]? = some (.cells cs t (0, 0))) (h4 : CS w3.drew T.held h w4) (h5 : CS (w4.alloc (.cells #[.slice none 0 0, .slice none 0 0] 125)) T.wait v w5) : AQ w os K cs t T w4.heap.size h v ((w5.setCell ⟨w4.heap.size, 0, none⟩ h).setCell ⟨w4.heap.size, 1, none⟩ v) := by
 have hKl := (Array.getElem?_eq_some_iff.1 hk).1;have hs := bx.size;have b0 : Below w3.heap.size w3 w3.drew := (Below.refl _ w3).drew;have b4 := below1 w4 (.cells #[.slice none 0 0, .slice none 0 0] 125);have b34 := below_via b0 h4.bel;have b35 := below_via b34 (below_via b4 h5.bel);have hT := TabOwn.two (w := w) (B := w.heap.size + os.length) h4 h5 b4 hs;have s4 := b34.size;exact AQ.put (bx.keep b35) ((b35.block _ hKl).trans hk) ((h5.bel.block _ (by simp)).trans (heap_alloc_new w4 _)) hT.1 hT.2 (by omega) (by omega)
theorem AQ.o1 {w w3 w4 w5 : World} {os : List Obj} {K : Nat} {cs : Array Value} {t : TypeId} {T : TabV} {h v : Value} (bx : Bx w os w3) (hk : w3.heap[K]? = some (.cells cs t (0, 0))) (h4 : CS (w3.drew.alloc (.cells #[.slice none 0 0, .slice none 0 0] 125)) T.held h w4) (h5 : CS w4 T.wait v w5) : AQ w os K cs t T w3.heap.size h v ((w5.setCell ⟨w3.heap.size, 0, none⟩ h).setCell ⟨w3.heap.size, 1, none⟩ v) := by
 have hKl := (Array.getElem?_eq_some_iff.1 hk).1;have hs := bx.size;have b0 : Below w3.heap.size w3 w3.drew := (Below.refl _ w3).drew;have b3 := below1 w3.drew (.cells #[.slice none 0 0, .slice none 0 0] 125);have b35 := below_via b0 (below_via b3 (below_via h4.bel h5.bel));have s3 := b3.size;have hT := TabOwn.two (w := w) (B := w.heap.size + os.length) h4 h5 (Below.refl _ _) (by have : w3.drew.heap.size = w3.heap.size := rfl; omega)
 have hP : w5.heap[w3.heap.size]? = some (.cells #[.slice none 0 0, .slice none 0 0] 125 (0, 0)) := (h5.bel.block _ (by have := h4.bel.size; simp at this; omega)).trans ((h4.bel.block _ (by simp)).trans (heap_alloc_new w3.drew _))
 exact AQ.put (bx.keep b35) ((b35.block _ hKl).trans hk) hP hT.1 hT.2 (by omega) (by omega)
theorem AQ.keep {w wx wy : World} {os : List Obj} {K : Nat} {cs : Array Value} {t : TypeId} {T : TabV} {P : Nat} {h v : Value} (a : AQ w os K cs t T P h v wx) (hb : Below wx.heap.size wx wy) : AQ w os K cs t T P h v wy :=
 ⟨a.bx.keep hb, (hb.block _ (Array.getElem?_eq_some_iff.1 a.hk).1).trans a.hk, (hb.block _ (Array.getElem?_eq_some_iff.1 a.box).1).trans a.box, ⟨own_keep a.own.oh hb, own_keep a.own.ov hb⟩, a.sep, a.lP, a.ne⟩
structure AR (w : World) (os : List Obj) (T : TabV) (P : Nat) (h v : Value) (wx : World) : Prop where
 bx : Bx w os wx
 box : wx.heap[P]? = some (.cells #[h, v] 125 (0, 0))
 own : TabOwn (w.heap.size + os.length) T h v wx
theorem AQ.ar {w wx : World} {os : List Obj} {K : Nat} {cs : Array Value} {t : TypeId} {T : TabV} {P : Nat} {h v : Value} (a : AQ w os K cs t T P h v wx) : AR w os T P h v wx := ⟨a.bx, a.box, a.own⟩
theorem AR.ret {w wx : World} {os : List Obj} {T : TabV} {P : Nat} {h v z0 z1 : Value} (a : AR w os T P h v wx) (ho : os[3]? = some (.cells #[z0, z1] 125 (0, 0))) :
  ((wx.setCell ⟨w.heap.size + 3, 0, none⟩ h).setCell ⟨w.heap.size + 3, 1, none⟩ v).heap[w.heap.size + 3]? = some (.cells #[h, v] 125 (0, 0)) ∧ TabOwn w.heap.size T h v ((wx.setCell ⟨w.heap.size + 3, 0, none⟩ h).setCell ⟨w.heap.size + 3, 1, none⟩ v) ∧ Below w.heap.size w ((wx.setCell ⟨w.heap.size + 3, 0, none⟩ h).setCell ⟨w.heap.size + 3, 1, none⟩ v) := by
 have hb := (a.bx.at_ 3 (List.getElem?_eq_some_iff.1 ho).1).trans ho
 exact ⟨put2 hb h v, ⟨own_base (own_cell (own_cell a.own.oh hb (by decide)) (heap_set hb 0 h) (by decide)) (by omega), own_base (own_cell (own_cell a.own.ov hb (by decide)) (heap_set hb 0 h) (by decide)) (by omega)⟩, belowSet _ (belowSet _ a.bx.bel (by omega)) (by omega)⟩
theorem Bx.grown {w W w' : World} {os : List Obj} {B n z : Nat} {e : TypeId} {v : Value} {xs : List Value} (h : Bx w os W) (hg : W.grownBy w' v.ownBlock) (ho : W.ownsRow (w.heap.size + os.length) e z v n xs) : Bx w os w' :=
 ⟨fun i hi => (hg.block _ (by have := h.size; omega) (fun e => by have := (ho.lt _ e.symm).1; omega)).trans (h.at_ i hi), grown_own hg ho (by omega) h.bel, Nat.le_trans h.size hg.size⟩
theorem AQ.appH {w W : World} {os : List Obj} {K : Nat} {cs : Array Value} {t : TypeId} {T : TabV} {P b c : Nat} {h v : Value} {x : HoldV} (a : AQ w os K cs t T P h v W) (hb : W.heap[b]? = some (.cells (holE x).toArray 166 (0, 0))) (hl : T.held.length ≤ 1000) :
  ∃ a' c' w', (Builtin.append_ #[123, 123] 123 #[h, .slice (some ⟨b, 0, none⟩) 1 c]).run Tryz.prog W = .ok (.slice a' (T.held.length + 1) c') w' ∧ AR w os ⟨T.held ++ [x], T.wait⟩ P (.slice a' (T.held.length + 1) c') v (w'.setCell ⟨P, 0, none⟩ (.slice a' (T.held.length + 1) c')) ∧ w'.cell? ⟨P, 0, none⟩ = some h ∧ w'.cell? ⟨P, 1, none⟩ = some v ∧ w'.frozen? ⟨P, 0, none⟩ = false ∧ P < w'.heap.size := by
 obtain ⟨v', w', hrun, how, hgr⟩ := app1 (enc := holE) (t := 123) holK hol1 Tryz.underlying123 info44 rfl (by omega) W (w.heap.size + os.length) h T.held x b c a.bx.size a.own.oh hb (by omega) (by unfold maxLen; omega)
 obtain ⟨a', c', rfl⟩ := own_len how;have hlen : (T.held ++ [x]).length = T.held.length + 1 := by simp
 rw [hlen] at how hrun;have hbx := box_type hgr a.own.oh a.box (by decide);have hk2 : v.ownBlock = none ∨ v.ownBlock ≠ h.ownBlock := by
  rcases a.sep with e | e
  ·rw [e]
   rcases hv : v.ownBlock with _ | q
   ·exact .inl rfl
   ·exact .inr (by simp)
  ·exact .inr (fun x => e x.symm)
 have hbw : Bx w os w' := a.bx.grown (B := 0) hgr a.own.oh;refine ⟨a', c', w', hrun, ⟨⟨fun i hi => (heap_set_other _ _ _ _ _ (by have := a.lP; omega)).trans (hbw.at_ i hi), belowSet _ hbw.bel (by have := a.lP; omega), by simpa using hbw.size⟩, heap_set hbx 0 _, ⟨own_cell (by rw [hlen]; exact how) hbx (by decide), own_cell (a.own.ov.kept hgr hk2) hbx (by decide)⟩⟩, by rw [cell_at hbx]; rfl, by rw [cell_at hbx]; rfl, free_at hbx 0, (Array.getElem?_eq_some_iff.1 hbx).1⟩
theorem AQ.appV {w W : World} {os : List Obj} {K : Nat} {cs : Array Value} {t : TypeId} {T : TabV} {P b c : Nat} {h v : Value} {x : HoldV} (a : AQ w os K cs t T P h v W) (hb : W.heap[b]? = some (.cells (holE x).toArray 166 (0, 0))) (hl : T.wait.length ≤ 1000) :
  ∃ a' c' w', (Builtin.append_ #[123, 123] 123 #[v, .slice (some ⟨b, 0, none⟩) 1 c]).run Tryz.prog W = .ok (.slice a' (T.wait.length + 1) c') w' ∧ AR w os ⟨T.held, T.wait ++ [x]⟩ P h (.slice a' (T.wait.length + 1) c') (w'.setCell ⟨P, 1, none⟩ (.slice a' (T.wait.length + 1) c')) ∧ w'.cell? ⟨P, 0, none⟩ = some h ∧ w'.cell? ⟨P, 1, none⟩ = some v ∧ w'.frozen? ⟨P, 1, none⟩ = false ∧ P < w'.heap.size := by
 obtain ⟨v', w', hrun, how, hgr⟩ := app1 (enc := holE) (t := 123) holK hol1 Tryz.underlying123 info44 rfl (by omega) W (w.heap.size + os.length) v T.wait x b c a.bx.size a.own.ov hb (by omega) (by unfold maxLen; omega)
 obtain ⟨a', c', rfl⟩ := own_len how;have hlen : (T.wait ++ [x]).length = T.wait.length + 1 := by simp
 rw [hlen] at how hrun;have hbx := box_type hgr a.own.ov a.box (by decide);have hbw : Bx w os w' := a.bx.grown (B := 0) hgr a.own.ov;refine ⟨a', c', w', hrun, ⟨⟨fun i hi => (heap_set_other _ _ _ _ _ (by have := a.lP; omega)).trans (hbw.at_ i hi), belowSet _ hbw.bel (by have := a.lP; omega), by simpa using hbw.size⟩, heap_set hbx 1 _, ⟨own_cell (a.own.oh.kept hgr a.sep) hbx (by decide), own_cell (by rw [hlen]; exact how) hbx (by decide)⟩⟩, by rw [cell_at hbx]; rfl, by rw [cell_at hbx]; rfl, free_at hbx 1, (Array.getElem?_eq_some_iff.1 hbx).1⟩
theorem ref_ok {T : TabV} {k : KeyV} {t : TxnV} (h : refE T k t = 0) : chkB T = true ∧ keyB k = true ∧ namB t = true := by
 unfold refE at h
 split at h
 ·rename_i h1
  split at h
  ·rename_i h2
   rw [Bool.and_eq_true] at h2
   exact ⟨h1, h2.1, h2.2⟩
  ·omega
 ·omega
theorem chk_len {T : TabV} (h : chkB T = true) : T.held.length + T.wait.length ≤ 200 := by
 unfold chkB at h;rw [Bool.and_eq_true] at h;exact of_decide_eq_true h.1
theorem TabOwn.drew {B : Nat} {T : TabV} {h v : Value} {w : World} (a : TabOwn B T h v w) : TabOwn B T h v w.drew := ⟨a.oh.drew, a.ov.drew⟩
set_option maxHeartbeats 8000000 in
set_option maxRecDepth 100000 in
theorem ask_is (T : TabV) (h v : Value) (k n c q : Int) (w : World) (hT : Tab w T h v) : Calls Tryz.prog 70 #[.agg #[h, v], .agg #[.int .i64 k, .int .i64 n], .agg #[.int .i64 c, .int .i64 q]] w (AskBack (askL T (k, n) (c, q)) w) := by
 have H1 := hideIt (fun W (hW : Below w.heap.size w W) => refused_is T h v k n c q W (hT.keep hW));have H2 := hideIt (fun W (hW : Below w.heap.size w W) => holder_is T h v k n W (hT.keep hW));have H3 := hideIt (fun W (hW : Below w.heap.size w W) => queue_is T h v k n c q W (hT.keep hW));have H4 := hideIt (fun W (hW : Below w.heap.size w W) => cloneH_is h T.held W (hT.keep hW).held);have H5 := hideIt (fun W (hW : Below w.heap.size w W) => cloneH_is v T.wait W (hT.keep hW).wait);have H6 := hideIt (fun W (hW : Below w.heap.size w W) => size_is T h v W (hT.keep hW));have H7 := hideIt (fun a b W => isNobody_is a b W);have X0 := hideIt (Bx.first w [.cells #[h, v] 125, .cells #[.int .i64 k, .int .i64 n] 24, .cells #[.int .i64 c, .int .i64 q] 129, .cells #[.slice none 0 0, .slice none 0 0] 125]);have hl1 := hT.held.1;have hl2 := hT.wait.1;obtain ⟨ha, hc, rfl⟩ := hT.held.slice;obtain ⟨va, vc, rfl⟩ := hT.wait.slice;clear hT;simp only [List.foldl_cons, List.foldl_nil] at X0
 by_cases hR : refE T (k, n) (c, q) = 0
 ·have HX : Hid (askL T (k, n) (c, q) = if (hdT T.held (k, n) == (c, q)) = true ∨ 0 < (qL T.wait (k, n)).count (c, q) then (T, hdT T.held (k, n) == (c, q), 0)
   else if T.held.length + T.wait.length = 200 ∨ (qL T.wait (k, n)).length = 4 then (zTab, false, 161)
   else if (hdT T.held (k, n) == zT) = true then (⟨T.held ++ [((k, n), (c, q))], T.wait⟩, true, 0) else (⟨T.held, T.wait ++ [((k, n), (c, q))]⟩, false, 0)) := by
   show askL _ _ _ = _
   unfold askL;rw [if_pos hR]
  rw [hR] at H1;have hlen := chk_len (ref_ok hR).1;clear hR hl1 hl2;generalize askL T (k, n) (c, q) = RES at *;generalize hdT T.held (k, n) = f at *;obtain ⟨fc, fq⟩ := f;have l8 : (qL T.wait (k, n)).length ≤ T.wait.length := qL_len _ _;have k8 : (qL T.wait (k, n)).count (c, q) ≤ (qL T.wait (k, n)).length := List.count_le_length;generalize (qL T.wait (k, n)).count (c, q) = own at *;generalize (qL T.wait (k, n)).length = all at *
  go_enter Tryz.func70, Tryz.ntmps70
  go_wp2_with fail
  refine (H1.out _ X0.out.bel).mono ?_;rintro e w1 ⟨rfl, hb⟩;dsimp only;have X1 := hideIt (X0.out.keep hb);clear hb H1 X0
  go_upto_region 4 with fail
  have a0 : w1.cell? ⟨w.heap.size, 0, none⟩ = some (.slice ha T.held.length hc) := X1.out.c 0 0 rfl rfl;have a1 : w1.cell? ⟨w.heap.size, 1, none⟩ = some (.slice va T.wait.length vc) := X1.out.c 0 1 rfl rfl;have b0 : w1.cell? ⟨w.heap.size + 1, 0, none⟩ = some (.int .i64 k) := X1.out.c 1 0 rfl rfl;have b1 : w1.cell? ⟨w.heap.size + 1, 1, none⟩ = some (.int .i64 n) := X1.out.c 1 1 rfl rfl
  go_wp2_with fail
  refine (H2.out _ X1.out.bel).mono ?_;rintro e w2 ⟨rfl, hb⟩;dsimp only;have X2 := hideIt ((X1.out.keep hb).keep (below1 w2 (.cells #[.int .i64 fc, .int .i64 fq] 129)));have F2 := hideIt (heap_alloc_new w2 (.cells #[.int .i64 fc, .int .i64 fq] 129));have lK : w.heap.size + 1 + 1 + 1 < w2.heap.size := by have := (X1.out.keep hb).size; simp at this; omega
  clear hb H2 X1 a0 a1 b0 b1
  go_upto_region 5 with fail
  generalize w2.alloc (.cells #[.int .i64 fc, .int .i64 fq] 129) = W2 at *;generalize w2.heap.size = K at *;have a0 : W2.cell? ⟨w.heap.size, 0, none⟩ = some (.slice ha T.held.length hc) := X2.out.c 0 0 rfl rfl;have a1 : W2.cell? ⟨w.heap.size, 1, none⟩ = some (.slice va T.wait.length vc) := X2.out.c 0 1 rfl rfl;have b0 : W2.cell? ⟨w.heap.size + 1, 0, none⟩ = some (.int .i64 k) := X2.out.c 1 0 rfl rfl;have b1 : W2.cell? ⟨w.heap.size + 1, 1, none⟩ = some (.int .i64 n) := X2.out.c 1 1 rfl rfl;have t0 : W2.cell? ⟨w.heap.size + 1 + 1, 0, none⟩ = some (.int .i64 c) := X2.out.c 2 0 rfl rfl;have t1 : W2.cell? ⟨w.heap.size + 1 + 1, 1, none⟩ = some (.int .i64 q) := X2.out.c 2 1 rfl rfl
  go_wp2_with fail
  refine (H3.out _ X2.out.bel).mono ?_;rintro e w3 ⟨rfl, hb⟩;dsimp only;have X3 := hideIt (X2.out.keep hb);have F3 := hideIt ((hb.block _ (Array.getElem?_eq_some_iff.1 F2.out).1).trans F2.out);clear hb H3 X2 F2 a0 a1 b0 b1 t0 t1
  go_upto_region 6 with fail
  have HC1 : Hid (∀ W, Below w.heap.size w W → Bx w [.cells #[.slice ha T.held.length hc, .slice va T.wait.length vc] 125, .cells #[.int .i64 k, .int .i64 n] 24, .cells #[.int .i64 c, .int .i64 q] 129, .cells #[.slice none 0 0, .slice none 0 0] 125] W → Calls Tryz.prog 103 #[.slice ha T.held.length hc] W fun e w' => ∃ a' c', e = .returned (.slice a' T.held.length c') ∧ Hid (CS W T.held (.slice a' T.held.length c') w') ∧ Below w.heap.size w w' ∧ Bx w [.cells #[.slice ha T.held.length hc, .slice va T.wait.length vc] 125, .cells #[.int .i64 k, .int .i64 n] 24, .cells #[.int .i64 c, .int .i64 q] 129, .cells #[.slice none 0 0, .slice none 0 0] 125] w' ∧ w'.cell? ⟨w.heap.size, 0, none⟩ = some (.slice ha T.held.length hc) ∧ w'.cell? ⟨w.heap.size, 1, none⟩ = some (.slice va T.wait.length vc)) := by
   intro W hW hX;refine (H4.out W hW).mono ?_;rintro e w' ⟨v', rfl, ho, hb⟩;obtain ⟨a', c', rfl⟩ := own_len ho;have hX' := hX.keep hb
   exact ⟨a', c', rfl, hideIt ⟨ho, hb⟩, hX'.bel, hX', hX'.c 0 0 rfl rfl, hX'.c 0 1 rfl rfl⟩
  have HC2 : Hid (∀ W, Below w.heap.size w W → Bx w [.cells #[.slice ha T.held.length hc, .slice va T.wait.length vc] 125, .cells #[.int .i64 k, .int .i64 n] 24, .cells #[.int .i64 c, .int .i64 q] 129, .cells #[.slice none 0 0, .slice none 0 0] 125] W → Calls Tryz.prog 103 #[.slice va T.wait.length vc] W fun e w' => ∃ a' c', e = .returned (.slice a' T.wait.length c') ∧ Hid (CS W T.wait (.slice a' T.wait.length c') w') ∧ Below w.heap.size w w' ∧ Bx w [.cells #[.slice ha T.held.length hc, .slice va T.wait.length vc] 125, .cells #[.int .i64 k, .int .i64 n] 24, .cells #[.int .i64 c, .int .i64 q] 129, .cells #[.slice none 0 0, .slice none 0 0] 125] w' ∧ w'.cell? ⟨w.heap.size, 0, none⟩ = some (.slice ha T.held.length hc) ∧ w'.cell? ⟨w.heap.size, 1, none⟩ = some (.slice va T.wait.length vc)) := by
   intro W hW hX;refine (H5.out W hW).mono ?_;rintro e w' ⟨v', rfl, ho, hb⟩;obtain ⟨a', c', rfl⟩ := own_len ho;have hX' := hX.keep hb
   exact ⟨a', c', rfl, hideIt ⟨ho, hb⟩, hX'.bel, hX', hX'.c 0 0 rfl rfl, hX'.c 0 1 rfl rfl⟩
  clear H4 H5;have a0 : w3.cell? ⟨w.heap.size, 0, none⟩ = some (.slice ha T.held.length hc) := X3.out.c 0 0 rfl rfl;have a1 : w3.cell? ⟨w.heap.size, 1, none⟩ = some (.slice va T.wait.length vc) := X3.out.c 0 1 rfl rfl;have hs3 : w.heap.size < w3.heap.size := by have := X3.out.size; simp at this; omega
  have n3 : w3.heap.size ≠ w.heap.size := by omega
  go_cut [13] from 33 to 39 (fun u wx => ∃ P h' v', u = .pointer (some ⟨P, 0, none⟩) ∧ Hid (AQ w [.cells #[.slice ha T.held.length hc, .slice va T.wait.length vc] 125, .cells #[.int .i64 k, .int .i64 n] 24, .cells #[.int .i64 c, .int .i64 q] 129, .cells #[.slice none 0 0, .slice none 0 0] 125] K #[.int .i64 fc, .int .i64 fq] 129 T P h' v' wx))
  case first =>
   have hx3 := X3.out.keep (Below.refl _ w3).drew;have hx3a := hx3.keep (below1 w3.drew (.cells #[.slice none 0 0, .slice none 0 0] 125));have hb3 := hx3.bel;have hb3a := hx3a.bel
   go_region_held3 (fun W => W.cell? ⟨w.heap.size, 0, none⟩ = some (.slice ha T.held.length hc) ∧ W.cell? ⟨w.heap.size, 1, none⟩ = some (.slice va T.wait.length vc)) (go_keep) (first | (refine (HC1.out _ (by first | assumption | exact (Bx.keep (by assumption) (below1 _ _)).bel) (by first | assumption | exact Bx.keep (by assumption) (below1 _ _))).mono ?_; rintro e w4 ⟨a4, c4, rfl, hs4, hb4, hx4, j0, j1⟩; have n4 : w4.heap.size ≠ w.heap.size := (by have := hx4.size; simp at this; omega); (try have p4 : w4.heap[w3.heap.size]? = some (.cells #[.slice none 0 0, .slice none 0 0] 125 (0, 0)) := (hs4.out.bel.block _ (by simp)).trans (heap_alloc_new w3.drew _)); (try have p4c := two_at p4); (try obtain ⟨p40, p41, p42, p43, p44⟩ := p4c)) | (refine (HC2.out _ (by first | assumption | exact (Bx.keep (by assumption) (below1 _ _)).bel) (by first | assumption | exact Bx.keep (by assumption) (below1 _ _))).mono ?_; rintro e w5 ⟨a5, c5, rfl, hs5, hb5, hx5, j2, j3⟩; have n5 : w5.heap.size ≠ w.heap.size := (by have := hx5.size; simp at this; omega); (first | (have p5 : w5.heap[w3.heap.size]? = some (.cells #[.slice none 0 0, .slice none 0 0] 125 (0, 0)) := (hs5.out.bel.block _ p44).trans p4; have p5c := two_at p5; obtain ⟨p50, p51, p52, p53, p54⟩ := p5c) | (have p5 : w5.heap[w4.heap.size]? = some (.cells #[.slice none 0 0, .slice none 0 0] 125 (0, 0)) := (hs5.out.bel.block _ (by simp)).trans (heap_alloc_new w4 _); have p5c := two_at p5; obtain ⟨p50, p51, p52, p53, p54⟩ := p5c) | skip)))
   all_goals go_wp2_with fail
   all_goals go_meet
   ·exact ⟨_, _, _, rfl, hideIt (AQ.o3 X3.out F3.out hs4.out hs5.out)⟩
   ·exact ⟨_, _, _, rfl, hideIt (AQ.o2 X3.out F3.out hs4.out hs5.out)⟩
   ·exact ⟨_, _, _, rfl, hideIt (AQ.o1 X3.out F3.out hs4.out hs5.out)⟩
  case rest =>
  obtain ⟨P, h', v', rfl, HA⟩ := hcut;clear X3 F3 HC1 HC2 a0 a1 hs3 n3;obtain ⟨ha', hc', rfl⟩ := own_len HA.out.own.oh;obtain ⟨va', vc', rfl⟩ := own_len HA.out.own.ov;obtain ⟨p0, p1, -, -, -⟩ := two_at HA.out.box;obtain ⟨k0, k1, -, -, -⟩ := two_at HA.out.hk;have a0 : wc.cell? ⟨w.heap.size, 0, none⟩ = some (.slice ha T.held.length hc) := HA.out.bx.c 0 0 rfl rfl;have a1 : wc.cell? ⟨w.heap.size, 1, none⟩ = some (.slice va T.wait.length vc) := HA.out.bx.c 0 1 rfl rfl;have b0 : wc.cell? ⟨w.heap.size + 1, 0, none⟩ = some (.int .i64 k) := HA.out.bx.c 1 0 rfl rfl;have b1 : wc.cell? ⟨w.heap.size + 1, 1, none⟩ = some (.int .i64 n) := HA.out.bx.c 1 1 rfl rfl;have t0 : wc.cell? ⟨w.heap.size + 1 + 1, 0, none⟩ = some (.int .i64 c) := HA.out.bx.c 2 0 rfl rfl;have t1 : wc.cell? ⟨w.heap.size + 1 + 1, 1, none⟩ = some (.int .i64 q) := HA.out.bx.c 2 1 rfl rfl;have r0 : wc.cell? ⟨w.heap.size + 1 + 1 + 1, 0, none⟩ = some (.slice none 0 0) := HA.out.bx.c 3 0 rfl rfl;have r1 : wc.cell? ⟨w.heap.size + 1 + 1 + 1, 1, none⟩ = some (.slice none 0 0) := HA.out.bx.c 3 1 rfl rfl;have g0 : wc.frozen? ⟨w.heap.size + 1 + 1 + 1, 0, none⟩ = false := HA.out.bx.f 3 0 rfl;have g1 : wc.frozen? ⟨w.heap.size + 1 + 1 + 1, 1, none⟩ = false := HA.out.bx.f 3 1 rfl;have sz : w.heap.size + 1 + 1 + 1 < wc.heap.size := by have := HA.out.bx.size; simp at this; omega
  have RT := hideIt (HA.out.ar.ret rfl);have RC : Hid (((wc.setCell ⟨w.heap.size + 1 + 1 + 1, 0, none⟩ (.slice ha' T.held.length hc')).setCell ⟨w.heap.size + 1 + 1 + 1, 1, none⟩ (.slice va' T.wait.length vc')).cell? ⟨w.heap.size + 1 + 1 + 1, 0, none⟩ = some (.slice ha' T.held.length hc') ∧ ((wc.setCell ⟨w.heap.size + 1 + 1 + 1, 0, none⟩ (.slice ha' T.held.length hc')).setCell ⟨w.heap.size + 1 + 1 + 1, 1, none⟩ (.slice va' T.wait.length vc')).cell? ⟨w.heap.size + 1 + 1 + 1, 1, none⟩ = some (.slice va' T.wait.length vc')) := ⟨(two_at RT.out.1).1, (two_at RT.out.1).2.1⟩;have nK : K ≠ w.heap.size + 1 + 1 + 1 := by omega
  have nP : P ≠ w.heap.size + 1 + 1 + 1 := by have := HA.out.lP; simp at this; omega
  have n2 : w.heap.size + 1 + 1 ≠ w.heap.size + 1 + 1 + 1 := by omega
  cases hq : ((fc, fq) == (c, q))
  ·have q1 : ∀ W, (binOp .eql 129 (.agg #[.int .i64 fc, .int .i64 fq]) (.agg #[.int .i64 c, .int .i64 q])).run Tryz.prog W = .ok (.bool false) W := fun W => by rw [eq28, hq]
   by_cases ho : 0 < own
   ·have hoI : (0 : Int) < (own : Int) := by omega
    have HE : Hid (RES = (T, false, 0)) := by
     show RES = _
     rw [HX.out, if_pos (.inr ho), hq]
    clear HX ho hq
    go_wp2_with fail
    go_region
    go_wp2;exact bodyPost_ret (v := .tuple #[.agg #[.slice ha' T.held.length hc', .slice va' T.wait.length vc'], .bool false, .int .i64 0]) (by simp [results, Tryz.results70, go_sem, RC.out.1, RC.out.2]) rfl (by rw [HE.out]; exact ⟨_, _, rfl, RT.out.2.1.drew, RT.out.2.2.drew⟩)
   ·have hoI : ¬ (0 : Int) < (own : Int) := by omega
    have HY : Hid (RES = if T.held.length + T.wait.length = 200 ∨ all = 4 then (zTab, false, 161) else if ((fc, fq) == zT) = true then (⟨T.held ++ [((k, n), (c, q))], T.wait⟩, true, 0) else (⟨T.held, T.wait ++ [((k, n), (c, q))]⟩, false, 0)) := by
     show RES = _
     rw [HX.out, if_neg (by rw [hq]; simp; omega)]
    clear HX ho hq RT RC
    go_wp2_with fail
    refine (H6.out _ HA.out.bx.bel).mono ?_;rintro e w6 ⟨rfl, hb⟩;dsimp only;have HA6 := hideIt (HA.out.keep hb);clear hb HA;clear p0 p1 k0 k1 a0 a1 b0 b1 t0 t1 r0 r1 g0 g1 sz;obtain ⟨p0, p1, -, -, -⟩ := two_at HA6.out.box;obtain ⟨k0, k1, -, -, -⟩ := two_at HA6.out.hk;have a0 : w6.cell? ⟨w.heap.size, 0, none⟩ = some (.slice ha T.held.length hc) := HA6.out.bx.c 0 0 rfl rfl;have a1 : w6.cell? ⟨w.heap.size, 1, none⟩ = some (.slice va T.wait.length vc) := HA6.out.bx.c 0 1 rfl rfl;have b0 : w6.cell? ⟨w.heap.size + 1, 0, none⟩ = some (.int .i64 k) := HA6.out.bx.c 1 0 rfl rfl;have b1 : w6.cell? ⟨w.heap.size + 1, 1, none⟩ = some (.int .i64 n) := HA6.out.bx.c 1 1 rfl rfl;have t0 : w6.cell? ⟨w.heap.size + 1 + 1, 0, none⟩ = some (.int .i64 c) := HA6.out.bx.c 2 0 rfl rfl;have t1 : w6.cell? ⟨w.heap.size + 1 + 1, 1, none⟩ = some (.int .i64 q) := HA6.out.bx.c 2 1 rfl rfl;have r0 : w6.cell? ⟨w.heap.size + 1 + 1 + 1, 0, none⟩ = some (.slice none 0 0) := HA6.out.bx.c 3 0 rfl rfl;have r1 : w6.cell? ⟨w.heap.size + 1 + 1 + 1, 1, none⟩ = some (.slice none 0 0) := HA6.out.bx.c 3 1 rfl rfl;have g0 : w6.frozen? ⟨w.heap.size + 1 + 1 + 1, 0, none⟩ = false := HA6.out.bx.f 3 0 rfl;have g1 : w6.frozen? ⟨w.heap.size + 1 + 1 + 1, 1, none⟩ = false := HA6.out.bx.f 3 1 rfl;have sz : w.heap.size + 1 + 1 + 1 < w6.heap.size := by have := HA6.out.bx.size; simp at this; omega
    by_cases h200 : T.held.length + T.wait.length = 200
    ·have h200I : (T.held.length : Int) + (T.wait.length : Int) = 200 := by omega
     have HE : Hid (RES = (zTab, false, 161)) := by
      show RES = _
      rw [HY.out, if_pos (.inl h200)]
     clear HY h200;have RH := hideIt (put2 (HA6.out.bx.at_ 3 (by simp)) (.slice none 0 0) (.slice none 0 0));have RC : Hid (((w6.setCell ⟨w.heap.size + 1 + 1 + 1, 0, none⟩ (.slice none 0 0)).setCell ⟨w.heap.size + 1 + 1 + 1, 1, none⟩ (.slice none 0 0)).cell? ⟨w.heap.size + 1 + 1 + 1, 0, none⟩ = some (.slice none 0 0) ∧ ((w6.setCell ⟨w.heap.size + 1 + 1 + 1, 0, none⟩ (.slice none 0 0)).setCell ⟨w.heap.size + 1 + 1 + 1, 1, none⟩ (.slice none 0 0)).cell? ⟨w.heap.size + 1 + 1 + 1, 1, none⟩ = some (.slice none 0 0)) := ⟨(two_at RH.out).1, (two_at RH.out).2.1⟩;go_wp2;exact bodyPost_ret (v := .tuple #[.agg #[.slice none 0 0, .slice none 0 0], .bool false, .int .i64 161]) (by simp [results, Tryz.results70, go_sem, RC.out.1, RC.out.2]) rfl (by rw [HE.out]; exact ⟨_, _, rfl, zOwn _ _, belowSet _ (belowSet _ HA6.out.bx.bel (by omega)) (by omega)⟩)
    ·have h200I : ¬ (T.held.length : Int) + (T.wait.length : Int) = 200 := by omega
     by_cases h4 : all = 4
     ·have HE : Hid (RES = (zTab, false, 161)) := by
       show RES = _
       rw [HY.out, if_pos (.inr h4)]
      have h4I : (all : Int) = 4 := by omega
      clear HY h200 h4;have RH := hideIt (put2 (HA6.out.bx.at_ 3 (by simp)) (.slice none 0 0) (.slice none 0 0));have RC : Hid (((w6.setCell ⟨w.heap.size + 1 + 1 + 1, 0, none⟩ (.slice none 0 0)).setCell ⟨w.heap.size + 1 + 1 + 1, 1, none⟩ (.slice none 0 0)).cell? ⟨w.heap.size + 1 + 1 + 1, 0, none⟩ = some (.slice none 0 0) ∧ ((w6.setCell ⟨w.heap.size + 1 + 1 + 1, 0, none⟩ (.slice none 0 0)).setCell ⟨w.heap.size + 1 + 1 + 1, 1, none⟩ (.slice none 0 0)).cell? ⟨w.heap.size + 1 + 1 + 1, 1, none⟩ = some (.slice none 0 0)) := ⟨(two_at RH.out).1, (two_at RH.out).2.1⟩;go_wp2;exact bodyPost_ret (v := .tuple #[.agg #[.slice none 0 0, .slice none 0 0], .bool false, .int .i64 161]) (by simp [results, Tryz.results70, go_sem, RC.out.1, RC.out.2]) rfl (by rw [HE.out]; exact ⟨_, _, rfl, zOwn _ _, belowSet _ (belowSet _ HA6.out.bx.bel (by omega)) (by omega)⟩)
     ·have h4I : ¬ (all : Int) = 4 := by omega
      have HZ : Hid (RES = if ((fc, fq) == zT) = true then (⟨T.held ++ [((k, n), (c, q))], T.wait⟩, true, 0) else (⟨T.held, T.wait ++ [((k, n), (c, q))]⟩, false, 0)) := by
       show RES = _
       rw [HY.out, if_neg (by omega)]
      have h200B : ((T.held.length : Int) + (T.wait.length : Int) == 200) = false := beq_eq_false_iff_ne.2 h200I;have h4B : ((all : Int) == 4) = false := beq_eq_false_iff_ne.2 h4I;clear HY;have HC := hideIt (H7.out fc fq (w6.alloc (.cells #[.int .i64 k, .int .i64 n, .int .i64 c, .int .i64 q] 166)));have HA7 := hideIt (HA6.out.keep (below1 w6 (.cells #[.int .i64 k, .int .i64 n, .int .i64 c, .int .i64 q] 166)));have HN7 := hideIt (heap_alloc_new w6 (.cells #[.int .i64 k, .int .i64 n, .int .i64 c, .int .i64 q] 166));have lK6 : K < w6.heap.size := (Array.getElem?_eq_some_iff.1 HA6.out.hk).1;cases hz : ((fc, fq) == zT)
      ·rw [hz] at HC;have HE : Hid (RES = (⟨T.held, T.wait ++ [((k, n), (c, q))]⟩, false, 0)) := by
        show RES = _
        rw [HZ.out, if_neg (by simp [hz])]
       clear hz HZ
       go_wp2_with fail
       refine HC.out.mono ?_;rintro e w8 ⟨rfl, hb⟩;dsimp only;have HA8 := hideIt (HA7.out.keep hb);have HN8 := hideIt ((hb.block _ (by simp)).trans HN7.out);obtain ⟨a', c', w9, hrun, AR9, s0, s1, sf, sl⟩ := (HA8.out.keep (below1 w8 (.cells (holE ((k, n), (c, q))).toArray 166))).appV (c := 1) (heap_alloc_new w8 (.cells (holE ((k, n), (c, q))).toArray 166)) (by omega);unfold holE at hrun;dsimp only at hrun;have HRUN := hideIt hrun;have R9 := AR9.bx.at_ 3 (by simp);rw [heap_set_other _ _ _ _ _ nP.symm] at R9;obtain ⟨z0, z1, zf0, zf1, zl⟩ := two_at (p := w.heap.size + 1 + 1 + 1) R9;have RT := hideIt (AR9.ret rfl);have RC := hideIt (And.intro (two_at (p := w.heap.size + 1 + 1 + 1) RT.out.1).1 (two_at (p := w.heap.size + 1 + 1 + 1) RT.out.1).2.1);clear hb hrun HC HA7 HN7 AR9 HA6 R9;clear p0 p1 k0 k1 a0 a1 b0 b1 t0 t1 r0 r1 g0 g1 sz;obtain ⟨p0, p1, -, -, -⟩ := two_at HA8.out.box;have m0 : w8.cell? ⟨w6.heap.size, 0, none⟩ = some (.int .i64 k) := by rw [cell_at HN8.out]; rfl
       have m1 : w8.cell? ⟨w6.heap.size, 1, none⟩ = some (.int .i64 n) := by rw [cell_at HN8.out]; rfl
       have m2 : w8.cell? ⟨w6.heap.size, 2, none⟩ = some (.int .i64 c) := by rw [cell_at HN8.out]; rfl
       have m3 : w8.cell? ⟨w6.heap.size, 3, none⟩ = some (.int .i64 q) := by rw [cell_at HN8.out]; rfl
       have hl8 : w6.heap.size < w8.heap.size := (Array.getElem?_eq_some_iff.1 HN8.out).1;have hP8 : P < w8.heap.size := (Array.getElem?_eq_some_iff.1 HA8.out.box).1;have nP2 : w.heap.size + 1 + 1 + 1 ≠ P := nP.symm
       go_wp2_with (at_builtin; refine Lib.wpList_append_run _ rfl _ _ _ _ rfl _ _ rfl rfl _ _ HRUN.out ?_)
       exact bodyPost_ret (v := .tuple #[.agg #[.slice ha' T.held.length hc', .slice a' (T.wait.length + 1) c'], .bool false, .int .i64 0]) (by simp [results, Tryz.results70, go_sem, RC.out.1, RC.out.2]) rfl (by rw [HE.out]; exact ⟨_, _, rfl, RT.out.2.1, RT.out.2.2⟩)
      ·rw [hz] at HC;have HE : Hid (RES = (⟨T.held ++ [((k, n), (c, q))], T.wait⟩, true, 0)) := by
        show RES = _
        rw [HZ.out, if_pos hz]
       clear hz HZ
       go_wp2_with fail
       refine HC.out.mono ?_;rintro e w8 ⟨rfl, hb⟩;dsimp only;have HA8 := hideIt (HA7.out.keep hb);have HN8 := hideIt ((hb.block _ (by simp)).trans HN7.out);obtain ⟨a', c', w9, hrun, AR9, s0, s1, sf, sl⟩ := (HA8.out.keep (below1 w8 (.cells (holE ((k, n), (c, q))).toArray 166))).appH (c := 1) (heap_alloc_new w8 (.cells (holE ((k, n), (c, q))).toArray 166)) (by omega);unfold holE at hrun;dsimp only at hrun;have HRUN := hideIt hrun;have R9 := AR9.bx.at_ 3 (by simp);rw [heap_set_other _ _ _ _ _ nP.symm] at R9;obtain ⟨z0, z1, zf0, zf1, zl⟩ := two_at (p := w.heap.size + 1 + 1 + 1) R9;have RT := hideIt (AR9.ret rfl);have RC := hideIt (And.intro (two_at (p := w.heap.size + 1 + 1 + 1) RT.out.1).1 (two_at (p := w.heap.size + 1 + 1 + 1) RT.out.1).2.1);clear hb hrun HC HA7 HN7 AR9 HA6 R9;clear p0 p1 k0 k1 a0 a1 b0 b1 t0 t1 r0 r1 g0 g1 sz;obtain ⟨p0, p1, -, -, -⟩ := two_at HA8.out.box;have m0 : w8.cell? ⟨w6.heap.size, 0, none⟩ = some (.int .i64 k) := by rw [cell_at HN8.out]; rfl
       have m1 : w8.cell? ⟨w6.heap.size, 1, none⟩ = some (.int .i64 n) := by rw [cell_at HN8.out]; rfl
       have m2 : w8.cell? ⟨w6.heap.size, 2, none⟩ = some (.int .i64 c) := by rw [cell_at HN8.out]; rfl
       have m3 : w8.cell? ⟨w6.heap.size, 3, none⟩ = some (.int .i64 q) := by rw [cell_at HN8.out]; rfl
       have hl8 : w6.heap.size < w8.heap.size := (Array.getElem?_eq_some_iff.1 HN8.out).1;have hP8 : P < w8.heap.size := (Array.getElem?_eq_some_iff.1 HA8.out.box).1;have nP2 : w.heap.size + 1 + 1 + 1 ≠ P := nP.symm
       go_wp2_with (at_builtin; refine Lib.wpList_append_run _ rfl _ _ _ _ rfl _ _ rfl rfl _ _ HRUN.out ?_)
       exact bodyPost_ret (v := .tuple #[.agg #[.slice a' (T.held.length + 1) c', .slice va' T.wait.length vc'], .bool true, .int .i64 0]) (by simp [results, Tryz.results70, go_sem, RC.out.1, RC.out.2]) rfl (by rw [HE.out]; exact ⟨_, _, rfl, RT.out.2.1, RT.out.2.2⟩)
  ·have q1 : ∀ W, (binOp .eql 129 (.agg #[.int .i64 fc, .int .i64 fq]) (.agg #[.int .i64 c, .int .i64 q])).run Tryz.prog W = .ok (.bool true) W := fun W => by rw [eq28, hq]
   have HE : Hid (RES = (T, true, 0)) := by
    show RES = _
    rw [HX.out, if_pos (.inl hq), hq]
   clear HX hq
   go_wp2_with fail
   go_region
   go_wp2;exact bodyPost_ret (v := .tuple #[.agg #[.slice ha' T.held.length hc', .slice va' T.wait.length vc'], .bool true, .int .i64 0]) (by simp [results, Tryz.results70, go_sem, RC.out.1, RC.out.2]) rfl (by rw [HE.out]; exact ⟨_, _, rfl, RT.out.2.1.drew, RT.out.2.2.drew⟩)
 ·have HE : Hid (askL T (k, n) (c, q) = (zTab, false, refE T (k, n) (c, q))) := by
   show askL _ _ _ = _
   unfold askL;rw [if_neg hR]
  have HR := hideIt hR;generalize askL T (k, n) (c, q) = RES at *;generalize refE T (k, n) (c, q) = re at *
  go_enter Tryz.func70, Tryz.ntmps70
  go_wp2_with fail
  refine (H1.out _ X0.out.bel).mono ?_;rintro e w1 ⟨rfl, hb⟩;dsimp only;have X1 := hideIt (X0.out.keep hb);clear hb H1 X0 H2 H3 H4 H5 H6 H7;have r0 : w1.cell? ⟨w.heap.size + 1 + 1 + 1, 0, none⟩ = some (.slice none 0 0) := X1.out.c 3 0 rfl rfl;have r1 : w1.cell? ⟨w.heap.size + 1 + 1 + 1, 1, none⟩ = some (.slice none 0 0) := X1.out.c 3 1 rfl rfl;have g0 : w1.frozen? ⟨w.heap.size + 1 + 1 + 1, 0, none⟩ = false := X1.out.f 3 0 rfl;have g1 : w1.frozen? ⟨w.heap.size + 1 + 1 + 1, 1, none⟩ = false := X1.out.f 3 1 rfl;have RH := hideIt (put2 (X1.out.at_ 3 (by simp)) (.slice none 0 0) (.slice none 0 0));have RC := hideIt (And.intro (two_at (p := w.heap.size + 1 + 1 + 1) RH.out).1 (two_at (p := w.heap.size + 1 + 1 + 1) RH.out).2.1);go_wp2;exact bodyPost_ret (v := .tuple #[.agg #[.slice none 0 0, .slice none 0 0], .bool false, .int .i64 re]) (by simp [results, Tryz.results70, go_sem, RC.out.1, RC.out.2]) rfl (by rw [HE.out]; exact ⟨_, _, rfl, zOwn _ _, belowSet _ (belowSet _ X1.out.bel (by omega)) (by omega)⟩)
theorem nilTab (w : World) : Tab w zTab (.slice none 0 0) (.slice none 0 0) := ⟨SGot.nil _ _ _ _ _ _ (Nat.zero_le _), SGot.nil _ _ _ _ _ _ (Nat.zero_le _)⟩
theorem ask_zero (k : KeyV) (t : TxnV) : (askL zTab k t).2.2 = if (keyB k && namB t) = true then 0 else 1 := by
 have hc : chkB zTab = true := rfl;have hr : refE zTab k t = if (keyB k && namB t) = true then 0 else 1 := by
  unfold refE;rw [if_pos hc]
 unfold askL;rw [hr]
 by_cases h : (keyB k && namB t) = true
 ·rw [if_pos h, if_pos rfl];have e1 : zTab.held = [] := rfl;have e2 : zTab.wait = [] := rfl;rw [e1, e2]
  split
  ·rfl
  ·rw [if_neg (by simp [qL])]
   split <;> rfl
 ·rw [if_neg h, if_neg (by omega)]
theorem ask0_is (k n c q r : Int) (hr : (if (keyB (k, n) && namB (c, q)) = true then (0 : Int) else 1) = r) (w : World) : Calls Tryz.prog 70 #[.agg #[.slice none 0 0, .slice none 0 0], .agg #[.int .i64 k, .int .i64 n], .agg #[.int .i64 c, .int .i64 q]] w fun e w' => ∃ a l c' b m d y, e = .returned (.tuple #[.agg #[.slice a l c', .slice b m d], .bool y, .int .i64 r]) ∧ Below w.heap.size w w' := by
 refine (ask_is zTab _ _ k n c q w (nilTab w)).mono ?_;rintro e w' ⟨h, v, rfl, ho, hb⟩;obtain ⟨a, c', rfl⟩ := own_len ho.oh;obtain ⟨b, d, rfl⟩ := own_len ho.ov;rw [ask_zero, hr]
 exact ⟨_, _, _, _, _, _, _, rfl, hb⟩
set_option maxHeartbeats 1000000 in
theorem withinS_is (x lo hi : Int) (w : World) : Calls Tryz.prog 42 #[.int .i64 x, .int .i64 lo, .int .i64 hi] w fun e w' => e = .returned (.bool (wiB x lo hi)) ∧ w' = w := by
 unfold wiB
 by_cases h : lo ≤ x
 ·go_enter Tryz.func42, Tryz.ntmps42
  go_wp2;go_ret
  exact ⟨by simp [h], rfl⟩
 ·go_enter Tryz.func42, Tryz.ntmps42
  go_wp2;go_ret
  exact ⟨by rw [decide_eq_false (by omega)]; rfl, rfl⟩
def fitB (has n lo hi : Int) : Bool := if has = 0 then n == 0 else wiB n lo hi
set_option maxHeartbeats 1000000 in
theorem fitsN_is (has n lo hi : Int) (w : World) : Calls Tryz.prog 43 #[.int .i64 has, .int .i64 n, .int .i64 lo, .int .i64 hi] w fun e w' => e = .returned (.bool (fitB has n lo hi)) ∧ w' = w := by
 have H := hideIt (fun W => withinS_is n lo hi W);unfold fitB
 by_cases h : has = 0
 ·subst h;rw [if_pos rfl]
  go_enter Tryz.func43, Tryz.ntmps43
  go_wp2;go_ret
  exact ⟨rfl, rfl⟩
 ·rw [if_neg h]
  go_enter Tryz.func43, Tryz.ntmps43
  go_wp2_with fail
  refine (H.out _).mono ?_;rintro e w ⟨rfl, rfl⟩;dsimp only;go_wp2;go_ret
  exact ⟨rfl, rfl⟩
def fitK (has : Int) (k : KeyV) : Bool := if has = 0 then k == (0, 0) else keyB k
set_option maxHeartbeats 4000000 in
theorem fitsKey_is (has k n : Int) (w : World) : Calls Tryz.prog 44 #[.int .i64 has, .agg #[.int .i64 k, .int .i64 n]] w fun e w' => e = .returned (.bool (fitK has (k, n))) ∧ Below w.heap.size w w' := by
 have X0 := hideIt (below1 w (.cells #[.int .i64 k, .int .i64 n] 24));have q1 := eq26;unfold fitK
 by_cases h : has = 0
 ·subst h;rw [if_pos rfl]
  go_enter Tryz.func44, Tryz.ntmps44
  go_wp2;go_ret
  exact ⟨rfl, X0.out⟩
 ·rw [if_neg h];clear q1;cases hn : keyB (k, n)
  ·have H := hideIt (fun W => ask0_is k n 1 1 1 (by rw [hn]; rfl) W)
   go_enter Tryz.func44, Tryz.ntmps44
   go_wp2_with fail
   refine (H.out _).mono ?_;rintro e w1 ⟨a, l, c', b, m, d, y, rfl, hb⟩;dsimp only;have HB := hideIt (below_via X0.out (below_via hb (below1 w1 (.cells #[.slice a l c', .slice b m d] 125))));clear hb X0;go_wp2;go_ret
   exact ⟨rfl, HB.out⟩
  ·have H := hideIt (fun W => ask0_is k n 1 1 0 (by rw [hn]; rfl) W)
   go_enter Tryz.func44, Tryz.ntmps44
   go_wp2_with fail
   refine (H.out _).mono ?_;rintro e w1 ⟨a, l, c', b, m, d, y, rfl, hb⟩;dsimp only;have HB := hideIt (below_via X0.out (below_via hb (below1 w1 (.cells #[.slice a l c', .slice b m d] 125))));clear hb X0;go_wp2;go_ret
   exact ⟨rfl, HB.out⟩
end Go.Proofs.YtiinigifjdpicaaGreatDoor.Se
