/- Texts of my own, laid together. -/
import Derived.Test.YtiinigifjdpicaaGreatDoorMb08
import Derived.WideKeyEntry
import Derived.Deep.RegionLaw
import Derived.Test.YtiinigifjdpicaaGreatDoorPx03
import Derived.Test.YtiinigifjdpicaaGreatDoorPx02
namespace Go.Proofs.YtiinigifjdpicaaGreatDoor
open Go.RowKit Go.Maps
set_option linter.all false
def cg (f : Cls) (x a : Int) : Int := (f x a).getD 0
def one1 (f : Cls) (x a : Int) : List OweV := if 0 < cg f x a then [⟨x, a, cg f x a⟩] else []
def prt (f : Cls) (x : Int) : Nat → List OweV
 | 0 => []
 | 1 => one1 f x 0
 | _ => one1 f x 0 ++ one1 f x 1
def lstK (f : Cls) : Nat → List OweV
 | 0 => []
 | k + 1 => lstK f k ++ prt f ((k : Int) + 1) 2
theorem one1_len (f : Cls) (x a : Int) : (one1 f x a).length ≤ 1 := by unfold one1; split <;> simp
theorem prt_len (f : Cls) (x : Int) (j : Nat) : (prt f x j).length ≤ 2 := by
 unfold prt
 split
 ·simp
 ·have := one1_len f x 0; omega
 ·have := one1_len f x 0;have := one1_len f x 1;rw [List.length_append]; omega
theorem lstK_len (f : Cls) : ∀ k, (lstK f k).length ≤ 2 * k
 | 0 => by simp [lstK]
 | k + 1 => by
  have := lstK_len f k;have := prt_len f ((k : Int) + 1) 2;unfold lstK;rw [List.length_append]; omega
set_option maxHeartbeats 8000000 in
set_option maxRecDepth 100000 in
theorem list_is (mb c : Nat) (f : Cls) (w : World) (h : CM w mb c f) : Calls Tryz.prog 125 #[.map (some mb)] w fun e w' => ∃ v, e = .returned v ∧ w'.ownsRow w.heap.size 61 3 v (lstK f 8).length (celC oweE (lstK f 8)) ∧ Below w.heap.size w w' := by
 have HC := hideIt (fun W (hW : Below w.heap.size w W) => h.keep hW);clear h
 go_enter Tryz.func125, Tryz.ntmps125
 go_upto_region 3 with fail
 go_loopw [3, 4] (fun u x wr => ∃ k : Nat, x = .int .i64 ((k : Int) + 1) ∧ k ≤ 8 ∧ Hid (wr.ownsRow w.heap.size 61 3 u (lstK f k).length (celC oweE (lstK f k)) ∧ Below w.heap.size w wr)) (fun _ x _ => 10 - (intOf x).toNat)
 case atStart => exact ⟨0, rfl, Nat.zero_le _, hideIt ⟨own_nil _ _, Below.refl _ _⟩⟩
 case round =>
  obtain ⟨k, rfl, hk, HR⟩ := hrel
  by_cases hlt : k < 8
  ·have hle : (k : Int) + 1 ≤ 8 := by omega
   have hwk : IntKind.i64.wrap ((k : Int) + 1 + 1) = ((k + 1 : Nat) : Int) + 1 := by rw [IntKind.wrap_i64]; omega
   go_upto_region 6 with fail
   go_loopw [3, 5] (fun u x wr => ∃ j : Int, x = .int .i64 j ∧ (j = 0 ∨ j = 1 ∨ j = 2) ∧ Hid (wr.ownsRow w.heap.size 61 3 u (lstK f k ++ prt f ((k : Int) + 1) j.toNat).length (celC oweE (lstK f k ++ prt f ((k : Int) + 1) j.toNat)) ∧ Below w.heap.size w wr)) (fun _ x _ => 2 - (intOf x).toNat)
   case atStart => exact ⟨0, rfl, .inl rfl, hideIt ⟨by rw [show prt f ((k : Int) + 1) (0 : Int).toNat = [] from rfl, List.append_nil]; exact HR.out.1, HR.out.2⟩⟩
   case round =>
    clear HR;obtain ⟨j, rfl, hj, HR⟩ := hrel
    rcases hj with rfl | rfl | rfl
    ·rw [show (0 : Int).toNat = 0 from rfl] at HR;have hlk := (HC.out wr HR.out.2).look ((k : Int) + 1) 0 ⟨by omega, by omega⟩;unfold clV at hlk;have hpo : prt f ((k : Int) + 1) 1 = prt f ((k : Int) + 1) 0 ++ one1 f ((k : Int) + 1) 0 := rfl;have hln1 := lstK_len f k;have hln2 := prt_len f ((k : Int) + 1) 0;have HO := hideIt HR.out.1;have HB := hideIt HR.out.2;obtain ⟨ua, uc, rfl⟩ := own_len HO.out;unfold one1 cg at hpo;generalize (f ((k : Int) + 1) 0).getD 0 = gv at *
     by_cases hg : 0 < gv
     ·rw [if_pos hg] at hpo;have hgd : decide (0 < gv) = true := decide_eq_true hg;have HPO := hideIt hpo;have hb1 := below1 wr (.cells #[.int .i64 ((k : Int) + 1), .int .i64 0, .int .i64 gv] 61);obtain ⟨v', w', hrun, how, hgr⟩ := app1 (enc := oweE) (t := 57) oweK owe1 Tryz.underlying57 info63 rfl (by omega) _ w.heap.size _ (lstK f k ++ prt f ((k : Int) + 1) 0) ⟨(k : Int) + 1, 0, gv⟩ wr.heap.size 1 (below_via HB.out hb1).size (own_keep HO.out hb1) (heap_alloc_new wr _) (by rw [List.length_append]; omega) (by rw [List.length_append]; unfold maxLen; omega)
      have Z : Hid (w'.ownsRow w.heap.size 61 3 v' (lstK f k ++ prt f ((k : Int) + 1) 1).length (celC oweE (lstK f k ++ prt f ((k : Int) + 1) 1)) ∧ Below w.heap.size w w') := by
       refine ⟨?_, grown_own hgr (own_keep HO.out hb1) (Nat.le_refl _) (below_via HB.out hb1)⟩;rw [HPO.out, ← List.append_assoc];exact how
      have HRUN := hideIt hrun;unfold oweE at HRUN
      try dsimp only at HRUN
      obtain ⟨va, vc, rfl⟩ := own_len Z.out.1;clear hrun how hgr hb1 HO HB HR hpo
      go_wp2_with (at_builtin; refine Lib.wpList_append_run _ rfl _ _ _ _ rfl _ _ rfl rfl _ _ HRUN.out ?_)
      clear HRUN;go_wp2
      go_roundw
      case rel => exact ⟨1, by go_num, by omega, by rw [← List.length_append]; exact Z⟩
      case measure => simp [intOf]
     ·rw [if_neg hg, List.append_nil] at hpo;have hgd : decide (0 < gv) = false := decide_eq_false hg;have Z : Hid (wr.ownsRow w.heap.size 61 3 (.slice ua (lstK f k ++ prt f ((k : Int) + 1) 0).length uc) (lstK f k ++ prt f ((k : Int) + 1) 1).length (celC oweE (lstK f k ++ prt f ((k : Int) + 1) 1)) ∧ Below w.heap.size w wr) := by
       rw [hpo]
       exact ⟨HO.out, HB.out⟩
      clear hpo HO HB HR;go_wp2
      go_roundw
      case rel => exact ⟨1, by go_num, by omega, Z⟩
      case measure => simp [intOf]
    ·rw [show (1 : Int).toNat = 1 from rfl] at HR;have hlk := (HC.out wr HR.out.2).look ((k : Int) + 1) 1 ⟨by omega, by omega⟩;unfold clV at hlk;have hpo : prt f ((k : Int) + 1) 2 = prt f ((k : Int) + 1) 1 ++ one1 f ((k : Int) + 1) 1 := rfl;have hln1 := lstK_len f k;have hln2 := prt_len f ((k : Int) + 1) 1;have HO := hideIt HR.out.1;have HB := hideIt HR.out.2;obtain ⟨ua, uc, rfl⟩ := own_len HO.out;unfold one1 cg at hpo;generalize (f ((k : Int) + 1) 1).getD 0 = gv at *
     by_cases hg : 0 < gv
     ·rw [if_pos hg] at hpo;have hgd : decide (0 < gv) = true := decide_eq_true hg;have HPO := hideIt hpo;have hb1 := below1 wr (.cells #[.int .i64 ((k : Int) + 1), .int .i64 1, .int .i64 gv] 61);obtain ⟨v', w', hrun, how, hgr⟩ := app1 (enc := oweE) (t := 57) oweK owe1 Tryz.underlying57 info63 rfl (by omega) _ w.heap.size _ (lstK f k ++ prt f ((k : Int) + 1) 1) ⟨(k : Int) + 1, 1, gv⟩ wr.heap.size 1 (below_via HB.out hb1).size (own_keep HO.out hb1) (heap_alloc_new wr _) (by rw [List.length_append]; omega) (by rw [List.length_append]; unfold maxLen; omega)
      have Z : Hid (w'.ownsRow w.heap.size 61 3 v' (lstK f k ++ prt f ((k : Int) + 1) 2).length (celC oweE (lstK f k ++ prt f ((k : Int) + 1) 2)) ∧ Below w.heap.size w w') := by
       refine ⟨?_, grown_own hgr (own_keep HO.out hb1) (Nat.le_refl _) (below_via HB.out hb1)⟩;rw [HPO.out, ← List.append_assoc];exact how
      have HRUN := hideIt hrun;unfold oweE at HRUN
      try dsimp only at HRUN
      obtain ⟨va, vc, rfl⟩ := own_len Z.out.1;clear hrun how hgr hb1 HO HB HR hpo
      go_wp2_with (at_builtin; refine Lib.wpList_append_run _ rfl _ _ _ _ rfl _ _ rfl rfl _ _ HRUN.out ?_)
      clear HRUN;go_wp2
      go_roundw
      case rel => exact ⟨2, by go_num, by omega, by rw [← List.length_append]; exact Z⟩
      case measure => simp [intOf]
     ·rw [if_neg hg, List.append_nil] at hpo;have hgd : decide (0 < gv) = false := decide_eq_false hg;have Z : Hid (wr.ownsRow w.heap.size 61 3 (.slice ua (lstK f k ++ prt f ((k : Int) + 1) 1).length uc) (lstK f k ++ prt f ((k : Int) + 1) 2).length (celC oweE (lstK f k ++ prt f ((k : Int) + 1) 2)) ∧ Below w.heap.size w wr) := by
       rw [hpo]
       exact ⟨HO.out, HB.out⟩
      clear hpo HO HB HR;go_wp2
      go_roundw
      case rel => exact ⟨2, by go_num, by omega, Z⟩
      case measure => simp [intOf]
    ·have Z : Hid (wr.ownsRow w.heap.size 61 3 u3 (lstK f (k + 1)).length (celC oweE (lstK f (k + 1))) ∧ Below w.heap.size w wr) := HR.out;clear HR;go_wp2
     go_roundw
     case rel => exact ⟨k + 1, by first | go_num | (simp; omega), by omega, Z⟩
     case measure => simp [intOf]; omega
  ·have hle : ¬ (k : Int) + 1 ≤ 8 := by omega
   have hk8 : k = 8 := by omega
   subst hk8;go_wp2;go_ret
   exact ⟨u3, rfl, HR.out⟩
end Go.Proofs.YtiinigifjdpicaaGreatDoor
namespace Go.Proofs.YtiinigifjdpicaaGreatDoor
open Go.RowKit Go.Maps Go.WideElems Go.WideMaps Go.ChangeMaps
set_option linter.all false
theorem set_twice (w : World) (b : Nat) (o p : Obj) : setBlock (setBlock w b o) b p = setBlock w b p := by
 simp [setBlock]
theorem set_self2 {w : World} {b : Nat} {o : Obj} (h : w.heap[b]? = some o) : setBlock w b o = w := by
 unfold setBlock;have : w.heap.setIfInBounds b o = w.heap := by
  apply Array.ext
  ·simp
  ·intro i h1 h2;rw [Array.getElem_setIfInBounds]
   split
   ·rename_i e
    subst e;have := (Array.getElem?_eq_some_iff.1 h).2;exact this.symm
   ·rfl
 rw [this]
theorem CM.entry {w : World} {mb c : Nat} {f : Cls} (h : CM w mb c f) (hc : c ≤ 1000000) (x a : Int) (hx : Cl2 x a) (p : Int) : ∃ v0 st w1 w3, (Instr.mapEntry 183 (.map (some mb)) (clV x a)).run Tryz.prog w = .ok (.tuple #[v0, goInt st]) w1 ∧ (Instr.lookup 183 (.map (some mb)) (clV x a) false).run Tryz.prog w1 = .ok (.int .i64 (cg f x a)) w1 ∧ (Instr.entryStore 183 (.map (some mb)) (goInt st) (.int .i64 p)).run Tryz.prog w1 = .ok () w3 ∧ CM w3 mb (c + 1) (updC f x a p) ∧ w.grownBy w3 (some mb) ∧ w.grownBy w1 (some mb) := by
 have hL := h.look x a hx;obtain ⟨w', hrun, hM, hgr⟩ := h.store hc x a hx p;obtain ⟨w0, hrun0, hM0, hgr0⟩ := h.store hc x a hx 0;obtain ⟨n, D, h1, ⟨es, clock, hb, F, r⟩, h3, h4, h5⟩ := h;have hkey := cl_key x a hx;obtain ⟨v0, st, es1, clock1, hme, hcase, hst⟩ := entry_then_store cl_law Tryz.underlying183 (fun u => zero3 u) hb F hkey;obtain ⟨es', clock', hes, hup⟩ := hst (setBlock w mb (.map es1 clock1)) (.int .i64 p) (heap_setBlock_same hb _);rw [hrun] at hup;simp only [Result.ok.injEq, true_and] at hup;have hw1 : (setBlock w mb (.map es1 clock1) = w ∧ True) ∨ (setBlock w mb (.map es1 clock1) = w0 ∧ cg f x a = 0) := by
  rcases cl_law.find w hkey es.toList F.keys with ⟨g1, g2⟩ | ⟨j, e0, g1, g2, g3⟩
  ·refine .inr ⟨?_, ?_⟩
   ·have hz := fun u => zero3 u
    have e1 : (Instr.mapEntry 183 (.map (some mb)) (clV x a)).run Tryz.prog w = .ok (.tuple #[.int .i64 0, goInt clock]) (setBlock w mb (.map (es.push ⟨clV x a, .int .i64 0, clock⟩) (clock + 1))) := by
     simp [Instr.mapEntry, run_underlying Tryz.underlying183, MapKept.run_getObj_map hb, cl_law.check w false hkey, g1, hz, MapKept.run_setObj_map _ hb, Result.andThen, setBlock]
    have e2 : (Instr.mapUpdate 183 (.map (some mb)) (clV x a) (.int .i64 0)).run Tryz.prog w = .ok () (setBlock w mb (.map (es.push ⟨clV x a, .int .i64 0, clock⟩) (clock + 1))) := by
     simp [Instr.mapUpdate, run_underlying Tryz.underlying183, MapKept.run_getObj_map hb, cl_law.check w false hkey, g1, MapKept.run_setObj_map _ hb, Result.andThen, setBlock]
    rw [hme] at e1;simp only [Result.ok.injEq] at e1;rw [hrun0] at e2;simp only [Result.ok.injEq, true_and] at e2;rw [e1.2, e2]
   ·have e1 : (Instr.lookup 183 (.map (some mb)) (clV x a) false).run Tryz.prog w = .ok (.int .i64 0) w := by
     have hz := fun u => zero3 u
     simp [Instr.lookup, run_underlying Tryz.underlying183, MapKept.run_getObj_map hb, cl_law.check w es.isEmpty hkey, g1, hz, Result.andThen]
    rw [hL] at e1
    simpa [cg] using e1
  ·refine .inl ⟨?_, trivial⟩;have hj : es[j]? = some e0 := by simpa using g2
   have hsame : es.modify j (fun e => { e with key := clV x a }) = es := by
    apply Array.ext'
    rw [Array.toList_modify, modify_eq_set _ _ _ _ g2];have : ({ e0 with key := clV x a } : MapEntry) = e0 := by rw [← g3]
    rw [this];exact set_self _ _ _ g2
   have e1 : (Instr.mapEntry 183 (.map (some mb)) (clV x a)).run Tryz.prog w = .ok (.tuple #[e0.val, goInt e0.born]) (setBlock w mb (.map es clock)) := by
    simp [Instr.mapEntry, run_underlying Tryz.underlying183, MapKept.run_getObj_map hb, cl_law.check w false hkey, g1, hj, g3, cl_law.stays w hkey, hsame, MapKept.run_setObj_map _ hb, Result.andThen, setBlock]
   rw [hme] at e1;simp only [Result.ok.injEq] at e1;rw [e1.2];exact set_self2 hb
 refine ⟨v0, st, setBlock w mb (.map es1 clock1), _, hme, ?_, hes, ?_, ?_, ?_⟩
 ·rcases hw1 with ⟨e, -⟩ | ⟨e, e2⟩
  ·rw [e];exact hL
  ·rw [e, hM0.look x a hx, e2]
   simp [updC]
 ·rw [set_twice, ← hup];exact hM
 ·rw [set_twice, ← hup];exact hgr
 ·rcases hw1 with ⟨e, -⟩ | ⟨e, -⟩
  ·rw [e];exact grown_refl _ _
  ·rw [e];exact hgr0
end Go.Proofs.YtiinigifjdpicaaGreatDoor
namespace Go.Proofs.YtiinigifjdpicaaGreatDoor
open Go.RowKit Go.Maps
set_option linter.all false
def addC (f : Cls) (x a n : Int) : Cls := updC f x a (cg f x a + n)
def stlC (f : Cls) (xa xp ya p n : Int) : Cls := addC (if p < xp then addC (addC f xa 1 n) xa 0 ((xp - p) * n) else addC f xa 1 n) ya 0 (p * n)
theorem cg_add (f : Cls) (x a n y b : Int) : cg (addC f x a n) y b = cg f y b + (if y = x ∧ b = a then n else 0) := by
 unfold cg addC updC
 by_cases e : y = x ∧ b = a
 ·obtain ⟨rfl, rfl⟩ := e
  simp [cg]
 ·simp [e]
theorem four_at5 {w : World} {p : Nat} {t : TypeId} {a b c d : Value} (h : w.heap[p]? = some (.cells #[a, b, c, d] t (0, 0))) : (w.cell? ⟨p, 0, none⟩ = some a ∧ w.cell? ⟨p, 1, none⟩ = some b ∧ w.cell? ⟨p, 2, none⟩ = some c ∧ w.cell? ⟨p, 3, none⟩ = some d) ∧ (∀ j, w.frozen? ⟨p, j, none⟩ = false) ∧ p < w.heap.size :=
 ⟨⟨by rw [cell_at h]; rfl, by rw [cell_at h]; rfl, by rw [cell_at h]; rfl, by rw [cell_at h]; rfl⟩, fun j => free_at h j, (Array.getElem?_eq_some_iff.1 h).1⟩
structure SX (w : World) (mb c : Nat) (f : Cls) (X Y : Array Value) (W : World) : Prop where
 cm : CM W mb c f
 b6 : W.heap[w.heap.size]? = some (.cells X 115 (0, 0))
 b7 : W.heap[w.heap.size + 1]? = some (.cells Y 115 (0, 0))
 out : Out (fun k => k = mb) w W
 lt : mb < w.heap.size
 sz : w.heap.size + 2 ≤ W.heap.size
theorem SX.drew {w W : World} {mb c : Nat} {f : Cls} {X Y : Array Value} (h : SX w mb c f X Y W) : SX w mb c f X Y W.drew :=
 ⟨h.cm.block rfl, h.b6, h.b7, h.out.trans (Out.ofDrew W) (fun _ _ h => h), h.lt, h.sz⟩
theorem SX.entry {w W : World} {mb c : Nat} {f : Cls} {X Y : Array Value} (h : SX w mb c f X Y W) (hc : c ≤ 100000) (x a n : Int) (hx : Cl2 x a) : ∃ (v0 : Value) (st : Int) (w1 w3 : World), (Instr.mapEntry 183 (.map (some mb)) (clV x a)).run Tryz.prog W = .ok (.tuple #[v0, Value.int .i64 st]) w1 ∧ (Instr.lookup 183 (.map (some mb)) (clV x a) false).run Tryz.prog W = .ok (.int .i64 (cg f x a)) W ∧ (Instr.lookup 183 (.map (some mb)) (clV x a) false).run Tryz.prog w1 = .ok (.int .i64 (cg f x a)) w1 ∧ (Instr.entryStore 183 (.map (some mb)) (Value.int .i64 st) (.int .i64 (cg f x a + n))).run Tryz.prog w1 = .ok () w3 ∧ SX w mb (c + 1) (addC f x a n) X Y w3 ∧ w1.heap[w.heap.size]? = some (.cells X 115 (0, 0)) ∧ w1.heap[w.heap.size + 1]? = some (.cells Y 115 (0, 0)) := by
 obtain ⟨v0, st, w1, w3, h1, h2, h3, h4, h5, h6⟩ := h.cm.entry (by omega) x a hx (cg f x a + n);have hlt := h.lt;have hz := h.sz;have n0 : some w.heap.size ≠ some mb := by intro e; cases e; omega
 have n1 : some (w.heap.size + 1) ≠ some mb := by intro e; cases e; omega
 refine ⟨v0, st, w1, w3, h1, h.cm.look x a hx, h2, h3, ⟨h4, ?_, ?_, h.out.trans (Out.ofGrown h5 (fun k e => by cases e; rfl)) (fun _ _ h => h), hlt, Nat.le_trans hz h5.size⟩, ?_, ?_⟩
 ·exact (h5.block _ (by omega) n0).trans h.b6
 ·exact (h5.block _ (by omega) n1).trans h.b7
 ·exact (h6.block _ (by omega) n0).trans h.b6
 ·exact (h6.block _ (by omega) n1).trans h.b7
theorem CM.mono {w : World} {mb c d : Nat} {f : Cls} (h : CM w mb c f) (hd : c ≤ d) : CM w mb d f := by
 obtain ⟨n, D, h1, h2⟩ := h
 exact ⟨n, D, by omega, h2⟩
set_option maxHeartbeats 8000000 in
set_option maxRecDepth 100000 in
theorem aSettle_is (mb c : Nat) (f : Cls) (xi xa xp xl yi ya yp yl p n : Int) (w : World) (h : CM w mb c f) (hc : c ≤ 1000) (hx : 1 ≤ xa ∧ xa ≤ 8) (hy : 1 ≤ ya ∧ ya ≤ 8) (hn : 0 ≤ n ∧ n ≤ 1000000) (hp : 0 ≤ p ∧ p ≤ 1000000) (hxp : 0 ≤ xp ∧ xp ≤ 1000000) (hf : ∀ x a, 0 ≤ cg f x a ∧ cg f x a ≤ 4000000000000000000) : Calls Tryz.prog 123 #[.map (some mb), .agg #[.int .i64 xi, .int .i64 xa, .int .i64 xp, .int .i64 xl], .agg #[.int .i64 yi, .int .i64 ya, .int .i64 yp, .int .i64 yl], .int .i64 p, .int .i64 n] w fun e w' => e = .returned (.tuple #[]) ∧ CM w' mb (c + 3) (stlC f xa xp ya p n) ∧ Out (fun k => k = mb) w w' := by
 obtain ⟨k1, k2, k3⟩ := two_heap w (.cells #[.int .i64 xi, .int .i64 xa, .int .i64 xp, .int .i64 xl] 115) (.cells #[.int .i64 yi, .int .i64 ya, .int .i64 yp, .int .i64 yl] 115);have hb2 := below2 w (.cells #[.int .i64 xi, .int .i64 xa, .int .i64 xp, .int .i64 xl] 115) (.cells #[.int .i64 yi, .int .i64 ya, .int .i64 yp, .int .i64 yl] 115);have S0 : Hid (SX w mb c f #[.int .i64 xi, .int .i64 xa, .int .i64 xp, .int .i64 xl] #[.int .i64 yi, .int .i64 ya, .int .i64 yp, .int .i64 yl] ((w.alloc (.cells #[.int .i64 xi, .int .i64 xa, .int .i64 xp, .int .i64 xl] 115)).alloc (.cells #[.int .i64 yi, .int .i64 ya, .int .i64 yp, .int .i64 yl] 115))) := ⟨h.keep hb2, k1, k2, Out.ofBelow hb2, h.lt, by omega⟩;clear k1 k2 k3 hb2 h
 go_enter Tryz.func123, Tryz.ntmps123
 go_upto_region 1 with fail
 generalize (w.alloc (.cells #[.int .i64 xi, .int .i64 xa, .int .i64 xp, .int .i64 xl] 115)).alloc (.cells #[.int .i64 yi, .int .i64 ya, .int .i64 yp, .int .i64 yl] 115) = W0 at *;obtain ⟨v0, st, w1, w3, hme, hl0, hl1, hes, hS, h6, h7⟩ := S0.out.drew.entry (by omega) xa 1 n ⟨hx, by omega⟩;obtain ⟨⟨a0, a1, a2, a3⟩, -, az⟩ := four_at5 S0.out.b6;obtain ⟨⟨b0, b1, b2, b3⟩, -, bz⟩ := four_at5 h6;have S1 := hideIt hS;have hw1 : IntKind.i64.wrap (cg f xa 1 + n) = cg f xa 1 + n := by have := hf xa 1; rw [IntKind.wrap_i64]; omega
 unfold clV at hme hl0 hl1;clear hS h6 h7 S0
 go_cut [18] from 10 to 18 (fun _ wx => w3 = wx)
 case first =>
  go_region
  all_goals go_wp2_with fail
  all_goals go_meet
  all_goals rfl
 case rest =>
 subst hcut;clear hme hl0 hl1 hes a0 a1 a2 a3 az b0 b1 b2 b3 bz hw1;have hf1 : ∀ x a, cg (addC f xa 1 n) x a = cg f x a + (if x = xa ∧ a = 1 then n else 0) := fun x a => cg_add f xa 1 n x a
 obtain ⟨f1, hf1e⟩ : ∃ f1, f1 = addC f xa 1 n := ⟨_, rfl⟩;rw [← hf1e] at S1;rw [← hf1e] at hf1;have HF1 := hideIt hf1e;have HFA := hideIt hf1;clear hf1e hf1;obtain ⟨⟨a0, a1, a2, a3⟩, -, az⟩ := four_at5 S1.out.b6
 by_cases hgt : p < xp
 ·have hmul : 0 ≤ (xp - p) * n ∧ (xp - p) * n ≤ 1000000000000 := ⟨Int.mul_nonneg (by omega) (by omega), by
   have := Int.mul_le_mul (show xp - p ≤ 1000000 by omega) hn.2 hn.1 (by omega : (0 : Int) ≤ 1000000)
   omega⟩
  obtain ⟨v0, st2, w4, w6, hme, hl0, hl1, hes, hS, h6, h7⟩ := S1.out.drew.entry (by omega) xa 0 ((xp - p) * n) ⟨hx, by omega⟩;obtain ⟨⟨b0, b1, b2, b3⟩, -, bz⟩ := four_at5 h6;have S2 := hideIt hS;have hw0 : IntKind.i64.wrap (xp - p) = xp - p := by rw [IntKind.wrap_i64]; omega
  have hw1 : IntKind.i64.wrap ((xp - p) * n) = (xp - p) * n := by rw [IntKind.wrap_i64]; omega
  have hw2 : IntKind.i64.wrap (cg f1 xa 0 + (xp - p) * n) = cg f1 xa 0 + (xp - p) * n := by have := hf xa 0; have := HFA.out xa 0; rw [IntKind.wrap_i64]; split at this <;> omega
  unfold clV at hme hl0 hl1;clear hS h6 h7 S1
  go_upto_if 56 with fail
  go_cut [36] from 23 to 36 (fun _ wx => w6 = wx)
  case first =>
   go_upto_region 3 with fail
   go_region
   all_goals go_wp2_with fail
   all_goals go_meet
   all_goals rfl
  case rest =>
  subst hcut;clear hme hl0 hl1 hes a0 a1 a2 a3 az b0 b1 b2 b3 bz hw0 hw1 hw2;have HFB := hideIt (fun x a => cg_add f1 xa 0 ((xp - p) * n) x a);have HST : Hid (stlC f xa xp ya p n = addC (addC f1 xa 0 ((xp - p) * n)) ya 0 (p * n)) := by show _ = _; unfold stlC; rw [if_pos hgt, ← HF1.out]
  generalize addC f1 xa 0 ((xp - p) * n) = f2 at *;have hcg : 0 ≤ cg f2 ya 0 ∧ cg f2 ya 0 ≤ 4000002000000000000 := by
   have q0 := hf ya 0;have q1 := HFA.out ya 0;have q2 := HFB.out ya 0
   split at q1 <;> split at q2 <;> omega
  have hmul2 : 0 ≤ p * n ∧ p * n ≤ 1000000000000 := ⟨Int.mul_nonneg hp.1 hn.1, by
   have := Int.mul_le_mul hp.2 hn.2 hn.1 (by omega : (0 : Int) ≤ 1000000)
   omega⟩
  have hw3 : IntKind.i64.wrap (p * n) = p * n := by rw [IntKind.wrap_i64]; omega
  have hw4 : IntKind.i64.wrap (cg f2 ya 0 + p * n) = cg f2 ya 0 + p * n := by rw [IntKind.wrap_i64]; omega
  (try obtain ⟨⟨a0, a1, a2, a3⟩, -, az⟩ := four_at5 S2.out.b6)
  go_upto_region 4 with fail
  obtain ⟨v0, st3, w7, w9, hme, hl0, hl1, hes, hS, h6, h7⟩ := S2.out.drew.entry (by omega) ya 0 (p * n) ⟨hy, by omega⟩;obtain ⟨⟨e0, e1, e2, e3⟩, -, ez⟩ := four_at5 S2.out.b7;obtain ⟨⟨b0, b1, b2, b3⟩, -, bz⟩ := four_at5 h7;have S3 := hideIt hS;unfold clV at hme hl0 hl1;clear hS h6 h7 S2
  go_region
  all_goals go_wp2
  all_goals go_end0
  all_goals exact ⟨rfl, by rw [HST.out]; exact CM.mono S3.out.cm (by omega), S3.out.out⟩
 ·have HST : Hid (stlC f xa xp ya p n = addC f1 ya 0 (p * n)) := by show _ = _; unfold stlC; rw [if_neg hgt, ← HF1.out]
  have hcg : 0 ≤ cg f1 ya 0 ∧ cg f1 ya 0 ≤ 4000002000000000000 := by
   have q0 := hf ya 0;have q1 := HFA.out ya 0
   split at q1 <;> omega
  have S2 := S1;generalize f1 = f2 at *;clear S1;have hmul2 : 0 ≤ p * n ∧ p * n ≤ 1000000000000 := ⟨Int.mul_nonneg hp.1 hn.1, by
   have := Int.mul_le_mul hp.2 hn.2 hn.1 (by omega : (0 : Int) ≤ 1000000)
   omega⟩
  have hw3 : IntKind.i64.wrap (p * n) = p * n := by rw [IntKind.wrap_i64]; omega
  have hw4 : IntKind.i64.wrap (cg f2 ya 0 + p * n) = cg f2 ya 0 + p * n := by rw [IntKind.wrap_i64]; omega
  (try obtain ⟨⟨a0, a1, a2, a3⟩, -, az⟩ := four_at5 S2.out.b6)
  go_upto_region 4 with fail
  obtain ⟨v0, st3, w7, w9, hme, hl0, hl1, hes, hS, h6, h7⟩ := S2.out.drew.entry (by omega) ya 0 (p * n) ⟨hy, by omega⟩;obtain ⟨⟨e0, e1, e2, e3⟩, -, ez⟩ := four_at5 S2.out.b7;obtain ⟨⟨b0, b1, b2, b3⟩, -, bz⟩ := four_at5 h7;have S3 := hideIt hS;unfold clV at hme hl0 hl1;clear hS h6 h7 S2
  go_region
  all_goals go_wp2
  all_goals go_end0
  all_goals exact ⟨rfl, by rw [HST.out]; exact CM.mono S3.out.cm (by omega), S3.out.out⟩
def takO (n : Int) : List OrdV → List OrdV
 | [] => []
 | o :: rest => if o.left - n = 0 then rest else ⟨o.id, o.acc, o.price, o.left - n⟩ :: rest
theorem grown_two {a b c : World} {r : Option Nat} (h : a.grownBy b r) (k : b.grownBy c r) : a.grownBy c r :=
 ⟨k.os.trans h.os, k.tape.trans h.tape, k.output.trans h.output, Nat.le_trans h.size k.size, fun i hi hne => (k.block i (Nat.lt_of_lt_of_le hi h.size) hne).trans (h.block i hi hne)⟩
set_option maxHeartbeats 4000000 in
set_option maxRecDepth 100000 in
theorem taken_is (B : Nat) (v : Value) (o : OrdV) (rest : List OrdV) (n : Int) (w : World) (ho : w.ownsRow B 115 4 v (o :: rest).length (celC ordE (o :: rest))) (hn : -9223372036854775808 ≤ o.left - n ∧ o.left - n ≤ 9223372036854775807) : Calls Tryz.prog 150 #[v, .int .i64 n] w fun e w' => ∃ v', e = .returned v' ∧ w'.ownsRow B 115 4 v' (takO n (o :: rest)).length (celC ordE (takO n (o :: rest))) ∧ w.grownBy w' v.ownBlock ∧ v'.ownBlock = v.ownBlock := by
 have HT : Hid (takO n (o :: rest) = if o.left - n = 0 then rest else ⟨o.id, o.acc, o.price, o.left - n⟩ :: rest) := rfl;generalize takO n (o :: rest) = T at *;obtain ⟨g, c, rfl, hgl, hcell⟩ : ∃ g c, v = .slice (some ⟨g, 0, none⟩) (o :: rest).length c ∧ g < w.heap.size ∧ w.cell? ⟨g, 3, none⟩ = some (.int .i64 o.left) := by
  have hc := fun g hg => ho.cells (g := g) hg
  obtain ⟨h1, ⟨rfl, h0⟩ | ⟨g, cap, cur, rfl, hB, hg, r⟩⟩ := ho
  ·simp at h0
  ·refine ⟨g, cap, rfl, (Array.getElem?_eq_some_iff.1 hg).1, ?_⟩;have := hc g rfl 3 (.int .i64 o.left) (by simp [celC, ordE])
   rwa [addN, Nat.zero_add] at this
 have hfz : w.frozen? ⟨g, 3, none⟩ = false := by
  obtain ⟨h1, ⟨e, h0⟩ | ⟨g', cap, cur, e, hB, hg, r⟩⟩ := ho
  ·simp at h0
  ·simp only [Value.slice.injEq, Option.some.injEq, Addr.mk.injEq] at e;obtain ⟨⟨rfl, -⟩, -⟩ := e;exact free_at hg 3
 have hw : IntKind.i64.wrap (o.left - n) = o.left - n := by rw [IntKind.wrap_i64]; omega
 have O2 : Hid ((w.setCell ⟨g, 3, none⟩ (.int .i64 (o.left - n))).ownsRow B 115 4 (.slice (some ⟨g, 0, none⟩) (o :: rest).length c) (o :: rest).length (celC ordE (⟨o.id, o.acc, o.price, o.left - n⟩ :: rest))) := by
  have := own_at (j := 3) (u := .int .i64 (o.left - n)) ho (by rw [List.length_cons]; omega)
  have e : (celC ordE (o :: rest)).set 3 (.int .i64 (o.left - n)) = celC ordE (⟨o.id, o.acc, o.price, o.left - n⟩ :: rest) := by simp [celC, ordE]
  rw [e] at this;exact this
 have G2 : Hid (w.grownBy (w.setCell ⟨g, 3, none⟩ (.int .i64 (o.left - n))) (Value.slice (some ⟨g, 0, none⟩) (o :: rest).length c).ownBlock) := grown_at;have c3' : (w.setCell ⟨g, 3, none⟩ (.int .i64 (o.left - n))).cell? ⟨g, 3, none⟩ = some (.int .i64 (o.left - n)) := by
  have hc := fun g hg => O2.out.cells (g := g) hg
  have := hc g rfl 3 (.int .i64 (o.left - n)) (by simp [celC, ordE])
  rwa [addN, Nat.zero_add] at this
 have gl2 : g < (w.setCell ⟨g, 3, none⟩ (.int .i64 (o.left - n))).heap.size := by simpa using hgl
 have hnp : 0 < (o :: rest).length := by simp
 have hnI : (0 : Int) < (((o :: rest).length : Nat) : Int) := by omega
 have hln : (o :: rest).length = rest.length + 1 := rfl;generalize hnb : (o :: rest).length = nb at *;have HLN := hideIt hln;clear hnb hln ho hn
 by_cases h0 : o.left - n = 0
 ·rw [if_pos h0] at HT;have HD := hideIt (deleteO_is B 0 1 rfl (.slice (some ⟨g, 0, none⟩) nb c) (⟨o.id, o.acc, o.price, o.left - n⟩ :: rest) _ (by rw [show (⟨o.id, o.acc, o.price, o.left - n⟩ :: rest : List OrdV).length = nb from HLN.out.symm]; exact O2.out) (by simp))
  rw [show ((0 : Nat) : Int) = 0 from rfl, show ((1 : Nat) : Int) = 1 from rfl] at HD;have HTT := hideIt HT;have hq0 : ((o.left - n) == 0) = true := by simpa using h0
  have H00 := hideIt h0;clear h0 HT
  go_enter Tryz.func150, Tryz.ntmps150
  go_wp2_with fail
  refine HD.out.mono ?_;rintro e w2 ⟨v', rfl, how, hgr, heq⟩;dsimp only;have Z : Hid (w2.ownsRow B 115 4 v' T.length (celC ordE T) ∧ w.grownBy w2 (Value.slice (some ⟨g, 0, none⟩) nb c).ownBlock ∧ v'.ownBlock = (Value.slice (some ⟨g, 0, none⟩) nb c).ownBlock) := by
   refine ⟨?_, grown_two G2.out hgr, heq⟩;rw [show T = rest from HTT.out.out]
   simpa using how
  clear how hgr heq HD O2 G2;go_wp2;go_ret
  exact ⟨v', rfl, Z.out⟩
 ·rw [if_neg h0] at HT;have hq0 : ((o.left - n) == 0) = false := by simpa using h0
  go_enter Tryz.func150, Tryz.ntmps150
  go_wp2;go_ret
  exact ⟨_, rfl, by rw [HT.out]; exact HLN.out ▸ O2.out, G2.out, rfl⟩
end Go.Proofs.YtiinigifjdpicaaGreatDoor
namespace Go.Proofs.YtiinigifjdpicaaGreatDoor
open Go.RowKit Go.Maps
set_option linter.all false
def trdC (p : Int) : Nat → List OrdV → List OrdV → Int → Cls → List FillV → List OrdV × List OrdV × Cls × List FillV
 | 0, B, A, _, f, F => (B, A, f, F)
 | k + 1, B, A, V, f, F => if 0 < V then (match B, A with
   | x :: bs, y :: ys => trdC p k (takO (min x.left y.left) (x :: bs)) (takO (min x.left y.left) (y :: ys)) (V - min x.left y.left) (stlC f x.acc x.price y.acc p (min x.left y.left)) (F ++ [⟨x.acc, y.acc, p, min x.left y.left⟩])
   | _, _ => (B, A, f, F)) else (B, A, f, F)
structure IV (p : Int) (B A : List OrdV) (V : Int) (f : Cls) (F : List FillV) : Prop where
 vol : V = min (dem p B) (sup p A)
 tb : OkT B
 ta : OkT A
 cb : AccT B
 ca : AccT A
 sb : B.Pairwise (fun x y => y.price ≤ x.price)
 sa : A.Pairwise (fun x y => x.price ≤ y.price)
 cgb : ∀ x a, 0 ≤ cg f x a ∧ cg f x a ≤ 9007199254740992 + (F.length : Int) * 3000000000000
theorem takO_cons (n : Int) (o : OrdV) (rest : List OrdV) : takO n (o :: rest) = if o.left - n = 0 then rest else ⟨o.id, o.acc, o.price, o.left - n⟩ :: rest := rfl
theorem dem_cons (p : Int) (o : OrdV) (l : List OrdV) : dem p (o :: l) = (if p ≤ o.price then o.left else 0) + dem p l := by simp [dem]
theorem sup_cons (p : Int) (o : OrdV) (l : List OrdV) : sup p (o :: l) = (if o.price ≤ p then o.left else 0) + sup p l := by simp [sup]
theorem sup_none {q : Int} {l : List OrdV} (h : ∀ o ∈ l, ¬ o.price ≤ q) : sup q l = 0 := by
 induction l with
 | nil => rfl
 | cons o l ih =>
  rw [sup_cons, if_neg (h o (List.mem_cons_self ..)), ih (fun x hx => h x (List.mem_cons_of_mem _ hx))]
  rfl
theorem IV.heads {p : Int} {B A : List OrdV} {V : Int} {f : Cls} {F : List FillV} (h : IV p B A V f F) (hV : 0 < V) : ∃ x bs y ys, B = x :: bs ∧ A = y :: ys ∧ p ≤ x.price ∧ y.price ≤ p := by
 have hv := h.vol;have hd : 0 < dem p B := by omega
 have hs : 0 < sup p A := by omega
 cases B with
 | nil => simp [dem] at hd
 | cons x bs =>
  cases A with
  | nil => simp [sup] at hs
  | cons y ys =>
   refine ⟨x, bs, y, ys, rfl, rfl, ?_, ?_⟩
   ·by_cases e : p ≤ x.price
    ·exact e
    ·have := dem_none (q := p) (l := x :: bs) (fun o ho => by
      rw [List.mem_cons] at ho
      rcases ho with rfl | ho
      ·exact e
      ·have := (List.pairwise_cons.1 h.sb).1 o ho
       omega)
     omega
   ·by_cases e : y.price ≤ p
    ·exact e
    ·have := sup_none (q := p) (l := y :: ys) (fun o ho => by
      rw [List.mem_cons] at ho
      rcases ho with rfl | ho
      ·exact e
      ·have := (List.pairwise_cons.1 h.sa).1 o ho
       omega)
     omega
theorem takO_ok {n : Int} {x : OrdV} {bs : List OrdV} (h : OkT (x :: bs)) (hn : 0 ≤ n ∧ n ≤ x.left) : OkT (takO n (x :: bs)) := by
 rw [takO_cons];have hx := h x (List.mem_cons_self ..)
 split
 ·exact fun q hq => h q (List.mem_cons_of_mem _ hq)
 ·intro q hq;rw [List.mem_cons] at hq
  rcases hq with rfl | hq
  ·exact ⟨hx.1, by dsimp only; omega⟩
  ·exact h q (List.mem_cons_of_mem _ hq)
theorem takO_acc {n : Int} {x : OrdV} {bs : List OrdV} (h : AccT (x :: bs)) : AccT (takO n (x :: bs)) := by
 simp only [takO_cons]
 split
 ·exact fun q hq => h q (List.mem_cons_of_mem _ hq)
 ·intro q hq;rw [List.mem_cons] at hq
  rcases hq with rfl | hq
  ·exact h x (List.mem_cons_self ..)
  ·exact h q (List.mem_cons_of_mem _ hq)
theorem takO_srt {n : Int} {x : OrdV} {bs : List OrdV} {R : OrdV → OrdV → Prop} (hR : ∀ y, R x y → R ⟨x.id, x.acc, x.price, x.left - n⟩ y) (h : (x :: bs).Pairwise R) : (takO n (x :: bs)).Pairwise R := by
 rw [List.pairwise_cons] at h;simp only [takO_cons]
 split
 ·exact h.2
 ·rw [List.pairwise_cons]
  exact ⟨fun y hy => hR y (h.1 y hy), h.2⟩
theorem takO_dem {n p : Int} {x : OrdV} {bs : List OrdV} (hp : p ≤ x.price) : dem p (takO n (x :: bs)) = dem p (x :: bs) - n := by
 simp only [takO_cons];rw [dem_cons, if_pos hp]
 split
 ·omega
 ·rw [dem_cons, if_pos (by exact hp)];dsimp only;omega
theorem takO_sup {n p : Int} {x : OrdV} {bs : List OrdV} (hp : x.price ≤ p) : sup p (takO n (x :: bs)) = sup p (x :: bs) - n := by
 simp only [takO_cons];rw [sup_cons, if_pos hp]
 split
 ·omega
 ·rw [sup_cons, if_pos (by exact hp)];dsimp only;omega
theorem takO_len (x y : OrdV) (bs ys : List OrdV) : (takO (min x.left y.left) (x :: bs)).length + (takO (min x.left y.left) (y :: ys)).length ≤ bs.length + ys.length + 1 := by
 simp only [takO_cons]
 by_cases h : x.left ≤ y.left
 ·rw [if_pos (by omega)]
  split <;> simp <;> omega
 ·have e : y.left - min x.left y.left = 0 := by omega
  rw [if_pos e]
  split <;> simp <;> omega
theorem cg_stl {f : Cls} {xa xp ya p n : Int} (h1 : 0 ≤ n ∧ n ≤ 1000000) (h2 : 0 ≤ p ∧ p ≤ 1000000) (h3 : 0 ≤ xp ∧ xp ≤ 1000000) (x a : Int) : cg f x a ≤ cg (stlC f xa xp ya p n) x a ∧ cg (stlC f xa xp ya p n) x a ≤ cg f x a + 3000000000000 := by
 have m1 : 0 ≤ p * n ∧ p * n ≤ 1000000000000 := ⟨Int.mul_nonneg h2.1 h1.1, by
  have := Int.mul_le_mul h2.2 h1.2 h1.1 (by omega : (0 : Int) ≤ 1000000)
  omega⟩
 unfold stlC;rw [cg_add]
 by_cases hp : p < xp
 ·have m2 : 0 ≤ (xp - p) * n ∧ (xp - p) * n ≤ 1000000000000 := ⟨Int.mul_nonneg (by omega) h1.1, by
   have := Int.mul_le_mul (show xp - p ≤ 1000000 by omega) h1.2 h1.1 (by omega : (0 : Int) ≤ 1000000)
   omega⟩
  rw [if_pos hp, cg_add, cg_add]
  split <;> split <;> split <;> omega
 ·rw [if_neg hp, cg_add]
  split <;> split <;> omega
theorem IV.step {p : Int} {x y : OrdV} {bs ys : List OrdV} {V : Int} {f : Cls} {F : List FillV} (h : IV p (x :: bs) (y :: ys) V f F) (hp : 0 ≤ p ∧ p ≤ 1000000) (hx : p ≤ x.price) (hy : y.price ≤ p) : (1 ≤ min x.left y.left ∧ min x.left y.left ≤ 1000000) ∧ IV p (takO (min x.left y.left) (x :: bs)) (takO (min x.left y.left) (y :: ys)) (V - min x.left y.left) (stlC f x.acc x.price y.acc p (min x.left y.left)) (F ++ [⟨x.acc, y.acc, p, min x.left y.left⟩]) := by
 have t1 := h.tb x (List.mem_cons_self ..);have t2 := h.ta y (List.mem_cons_self ..);refine ⟨by omega, ⟨?_, takO_ok h.tb (by omega), takO_ok h.ta (by omega), takO_acc h.cb, takO_acc h.ca, takO_srt (fun _ h => h) h.sb, takO_srt (fun _ h => h) h.sa, fun u a => ?_⟩⟩
 ·rw [takO_dem hx, takO_sup hy];have := h.vol;omega
 ·have h1 := h.cgb u a;have h2 := cg_stl (f := f) (xa := x.acc) (xp := x.price) (ya := y.acc) (p := p) (n := min x.left y.left) (by omega) hp (by omega) u a;rw [List.length_append];simp only [List.length_cons, List.length_nil]
  push_cast
  omega
end Go.Proofs.YtiinigifjdpicaaGreatDoor
namespace Go.Proofs.YtiinigifjdpicaaGreatDoor
open Go.RowKit Go.Maps
set_option linter.all false
theorem cl_vol (L : LaneV) : ∀ (ps : List Int) (st : Int × Int × Int), (∀ p ∈ ps, 1 ≤ p ∧ p ≤ 1000000) → (st.2.1 = volP L st.1 ∧ 0 ≤ st.1 ∧ st.1 ≤ 1000000) → ((ps.foldl (clS L) st).2.1 = volP L (ps.foldl (clS L) st).1 ∧ 0 ≤ (ps.foldl (clS L) st).1 ∧ (ps.foldl (clS L) st).1 ≤ 1000000)
 | [], st, _, h => h
 | p :: ps, st, hp, h => by
  rw [List.foldl_cons];refine cl_vol L ps _ (fun x hx => hp x (List.mem_cons_of_mem _ hx)) ?_;have h1 := hp p (List.mem_cons_self ..);unfold clS
  split
  ·exact ⟨rfl, by show 0 ≤ p; omega, by show p ≤ 1000000; omega⟩
  ·exact h
theorem cl_start {L : LaneV} (hk : chkB L = true) : (clL L).2.1 = volP L (clL L).1 ∧ 0 ≤ (clL L).1 ∧ (clL L).1 ≤ 1000000 := by
 have hm := chk_may hk;refine cl_vol L _ _ (fun p hp => ?_) ⟨?_, Int.le_refl _, by decide⟩
 ·have := (sort_perm _).mem_iff.1 hp;rw [List.mem_append] at this;unfold prL at this;simp only [List.mem_map] at this
  rcases this with ⟨o, ho, rfl⟩ | ⟨o, ho, rfl⟩
  ·exact (hm.tb o ho).1
  ·exact (hm.ta o ho).1
 ·have h1 : sup 0 L.asks = 0 := sup_none (fun o ho => by have := (hm.ta o ho).1.1; omega)
  have h2 := (dem_bd 0 L.bids hm.tb).1
  show (0 : Int) = volP L 0
  unfold volP;rw [h1];omega
theorem ah_pair {s : Int} (hs : s = 1 ∨ s = 2) : ∀ {l : List OrdV}, srtB (ahB s) l = true → l.Pairwise (fun x y => ahB s x y = true)
 | [], _ => List.Pairwise.nil
 | [x], _ => by simp
 | x :: y :: l, h => by
  have ih := ah_pair hs (srt_tail h);have hxy := srt_head h;rw [List.pairwise_cons];refine ⟨fun z hz => ?_, ih⟩;rw [List.mem_cons] at hz
  rcases hz with rfl | hz
  ·exact hxy
  ·exact ah_trans hs hxy ((List.pairwise_cons.1 ih).1 z hz)
theorem cg_of {l : List OweV} (h : ∀ y ∈ l, 0 ≤ y.n ∧ y.n ≤ 9007199254740992) (x a : Int) : 0 ≤ cg (clsOf l) x a ∧ cg (clsOf l) x a ≤ 9007199254740992 := by
 have key : ∀ (l : List OweV) (f : Cls), (∀ y ∈ l, 0 ≤ y.n ∧ y.n ≤ 9007199254740992) → (0 ≤ cg f x a ∧ cg f x a ≤ 9007199254740992) → 0 ≤ cg (l.foldl (fun f y => updC f y.acc y.asset y.n) f) x a ∧ cg (l.foldl (fun f y => updC f y.acc y.asset y.n) f) x a ≤ 9007199254740992 := by
  intro l
  induction l with
  | nil => intro f _ hf; exact hf
  | cons y l ih =>
   intro f hl hf;rw [List.foldl_cons];refine ih _ (fun z hz => hl z (List.mem_cons_of_mem _ hz)) ?_;have hy := hl y (List.mem_cons_self ..);unfold cg updC at *
   by_cases e : x = y.acc ∧ a = y.asset
   ·rw [if_pos e];exact hy
   ·rw [if_neg e];exact hf
 exact key l _ h ⟨Int.le_refl _, by show (0 : Int) ≤ 9007199254740992; omega⟩
theorem iv_start {L : LaneV} (hk : chkB L = true) : IV (clL L).1 L.bids L.asks (clL L).2.1 (clsOf L.owed) [] := by
 have hm := chk_may hk;have hb := (chk_bok L).1 hk;have s1 := side_acc hb.sb;have s2 := side_acc hb.sa;refine ⟨(cl_start hk).1, hm.tb, hm.ta, s1.1, s2.1, ?_, ?_, fun x a => ?_⟩
 ·refine (ah_pair (.inl rfl) s1.2.2).imp ?_;intro x y h;have := ah_worse (.inl rfl) h;unfold worse at this
  simpa using this
 ·refine (ah_pair (.inr rfl) s2.2.2).imp ?_;intro x y h;have := ah_worse (.inr rfl) h;unfold worse at this
  simpa using this
 ·have := cg_of (l := L.owed) (fun y hy => by have := hm.ow.2 y hy; simpa using this) x a
  simpa using this
theorem cl_keys {L : LaneV} (hk : chkB L = true) : (∀ y ∈ L.owed, Cl2 y.acc y.asset) ∧ L.owed.length ≤ 16 := by
 have hm := chk_may hk;have hb := (chk_bok L).1 hk;refine ⟨fun y hy => ?_, by have := hm.ow.1; simpa using this⟩
 have := (owed_owok hb.ow).2 y hy
 exact ⟨this.1, this.2.1⟩
end Go.Proofs.YtiinigifjdpicaaGreatDoor
namespace Go.Proofs.YtiinigifjdpicaaGreatDoor
open Go.RowKit Go.Maps
set_option linter.all false
def sumN (F : List FillV) : Int := (F.map (fun f => f.n)).sum
theorem sumN_app (F : List FillV) (x : FillV) : sumN (F ++ [x]) = sumN F + x.n := by simp [sumN]
theorem trdC_none {p : Int} {k : Nat} {B A : List OrdV} {V : Int} {f : Cls} {F : List FillV} (h : ¬ 0 < V) : trdC p (k + 1) B A V f F = (B, A, f, F) := if_neg h
theorem trd_ind {p : Int} (hp : 0 ≤ p ∧ p ≤ 1000000) (P : List OrdV → List OrdV → Int → Cls → List FillV → Prop)
  (step : ∀ x bs y ys V f F, IV p (x :: bs) (y :: ys) V f F → 0 < V → p ≤ x.price → y.price ≤ p → (1 ≤ min x.left y.left ∧ min x.left y.left ≤ 1000000) → P (x :: bs) (y :: ys) V f F → P (takO (min x.left y.left) (x :: bs)) (takO (min x.left y.left) (y :: ys)) (V - min x.left y.left) (stlC f x.acc x.price y.acc p (min x.left y.left)) (F ++ [⟨x.acc, y.acc, p, min x.left y.left⟩])) :
  ∀ (k : Nat) (B A : List OrdV) (V : Int) (f : Cls) (F : List FillV), IV p B A V f F → B.length + A.length ≤ k → P B A V f F → P (trdC p k B A V f F).1 (trdC p k B A V f F).2.1 0 (trdC p k B A V f F).2.2.1 (trdC p k B A V f F).2.2.2 ∧ IV p (trdC p k B A V f F).1 (trdC p k B A V f F).2.1 0 (trdC p k B A V f F).2.2.1 (trdC p k B A V f F).2.2.2
 | 0, B, A, V, f, F, hi, hl, hP => by
  have e1 : B = [] := List.length_eq_zero_iff.1 (by omega);have e2 : A = [] := List.length_eq_zero_iff.1 (by omega);have hv := hi.vol;subst e1 e2;have : V = 0 := by rw [hv]; rfl
  subst this
  exact ⟨hP, hi⟩
 | k + 1, B, A, V, f, F, hi, hl, hP => by
  by_cases hV : 0 < V
  ·obtain ⟨x, bs, y, ys, rfl, rfl, hx, hy⟩ := hi.heads hV;have hs := hi.step hp hx hy;have e : trdC p (k + 1) (x :: bs) (y :: ys) V f F = trdC p k (takO (min x.left y.left) (x :: bs)) (takO (min x.left y.left) (y :: ys)) (V - min x.left y.left) (stlC f x.acc x.price y.acc p (min x.left y.left)) (F ++ [⟨x.acc, y.acc, p, min x.left y.left⟩]) := by
    rw [trdC, if_pos hV]
   rw [e];have h1 := takO_len x y bs ys;simp only [List.length_cons] at hl;exact trd_ind hp P step k _ _ _ _ _ hs.2 (by omega) (step x bs y ys V f F hi hV hx hy hs.1 hP)
  ·have e : trdC p (k + 1) B A V f F = (B, A, f, F) := trdC_none hV;rw [e];have h1 := (dem_bd p B hi.tb).1;have h2 := (sup_bd p A hi.ta).1;have hv := hi.vol;have : V = 0 := by omega
   subst this
   exact ⟨hP, hi⟩
def cutO : Int → List OrdV → List OrdV
 | _, [] => []
 | n, x :: l => if x.left ≤ n then cutO (n - x.left) l else ⟨x.id, x.acc, x.price, x.left - n⟩ :: l
def skN : Int → List OrdV → Nat
 | _, [] => 0
 | n, x :: l => if x.left ≤ n then skN (n - x.left) l + 1 else 0
theorem cut_zero {l : List OrdV} (h : OkT l) : cutO 0 l = l := by
 cases l with
 | nil => rfl
 | cons x l =>
  have := (h x (List.mem_cons_self ..)).2;rw [cutO, if_neg (by omega)]
  simp
theorem cut_take : ∀ {l : List OrdV} {s n : Int} {x : OrdV} {bs : List OrdV}, OkT l → 0 ≤ s → cutO s l = x :: bs → 0 ≤ n → n ≤ x.left → takO n (x :: bs) = cutO (s + n) l
 | [], s, n, x, bs, _, _, h, _, _ => by simp [cutO] at h
 | y :: t, s, n, x, bs, hl, hs, h, h0, hn => by
  have hy := (hl y (List.mem_cons_self ..)).2;have ht : OkT t := fun q hq => hl q (List.mem_cons_of_mem _ hq)
  rw [cutO] at h
  by_cases e : y.left ≤ s
  ·rw [if_pos e] at h;rw [cut_take ht (by omega) h h0 hn, cutO, if_pos (by omega), show s + n - y.left = s - y.left + n by omega]
  ·rw [if_neg e] at h;simp only [List.cons.injEq] at h;obtain ⟨rfl, rfl⟩ := h;simp only at hn;rw [takO_cons, cutO]
   simp only
   by_cases e2 : y.left - s - n = 0
   ·rw [if_pos e2, if_pos (by omega), show s + n - y.left = 0 by omega, cut_zero ht]
   ·rw [if_neg e2, if_neg (by omega), show y.left - s - n = y.left - (s + n) by omega]
theorem cut_head : ∀ {l : List OrdV} {s : Int} {x : OrdV} {bs : List OrdV}, cutO s l = x :: bs → ∃ y, l[skN s l]? = some y ∧ x.acc = y.acc ∧ x.price = y.price
 | [], s, x, bs, h => by simp [cutO] at h
 | y :: t, s, x, bs, h => by
  rw [cutO] at h;rw [skN]
  by_cases e : y.left ≤ s
  ·rw [if_pos e] at h;rw [if_pos e];obtain ⟨z, h1, h2⟩ := cut_head h
   exact ⟨z, by simpa using h1, h2⟩
  ·rw [if_neg e] at h;rw [if_neg e];simp only [List.cons.injEq] at h
   exact ⟨y, rfl, by rw [← h.1], by rw [← h.1]⟩
theorem cut_suf : ∀ {l : List OrdV} {s : Int}, OkT l → 0 ≤ s → Suf l (cutO s l)
 | [], s, _, _ => Suf.all _
 | y :: t, s, hl, hs => by
  have hy := (hl y (List.mem_cons_self ..)).2;rw [cutO]
  split
  ·exact Suf.skip y (cut_suf (fun q hq => hl q (List.mem_cons_of_mem _ hq)) (by omega))
  ·exact Suf.cut y t _ (by omega)
def FokP (L : LaneV) (p : Int) (F : List FillV) : Prop := ∀ (i : Nat) (h : i < F.length), ∃ x y, L.bids[skN (sumN (F.take i)) L.bids]? = some x ∧ L.asks[skN (sumN (F.take i)) L.asks]? = some y ∧ F[i].buyer = x.acc ∧ F[i].seller = y.acc ∧ F[i].price = p ∧ (1 ≤ F[i].n ∧ F[i].n ≤ 1000000) ∧ p ≤ x.price ∧ y.price ≤ p
structure TrP (L : LaneV) (p V0 : Int) (B A : List OrdV) (V : Int) (F : List FillV) : Prop where
 vol : V + sumN F = V0
 pos : 0 ≤ sumN F
 cb : B = cutO (sumN F) L.bids
 ca : A = cutO (sumN F) L.asks
 fok : FokP L p F
 len : F.length + (B.length + A.length) ≤ 80
theorem trd_facts {L : LaneV} (hk : chkB L = true) : TrP L (clL L).1 (clL L).2.1 (trdC (clL L).1 80 L.bids L.asks (clL L).2.1 (clsOf L.owed) []).1 (trdC (clL L).1 80 L.bids L.asks (clL L).2.1 (clsOf L.owed) []).2.1 0 (trdC (clL L).1 80 L.bids L.asks (clL L).2.1 (clsOf L.owed) []).2.2.2 := by
 have hm := chk_may hk;have hlb := hm.lb;have hla := hm.la;refine (trd_ind (cl_start hk).2 (fun B A V _ F => TrP L (clL L).1 (clL L).2.1 B A V F) ?_ 80 L.bids L.asks _ _ [] (iv_start hk) (by omega) ?_).1
 ·intro x bs y ys V f F hi hV hx hy hn hP;have e1 := hP.cb.symm;have e2 := hP.ca.symm;have hpos := hP.pos;have hvol := hP.vol;obtain ⟨z, hz, za, zp⟩ := cut_head e1;obtain ⟨u, hu, ua, up⟩ := cut_head e2;refine ⟨by rw [sumN_app]; simp only; omega, by rw [sumN_app]; simp only; omega, ?_, ?_, ?_, ?_⟩
  ·rw [sumN_app];exact cut_take hm.tb hpos e1 (by omega) (by omega)
  ·rw [sumN_app];exact cut_take hm.ta hpos e2 (by omega) (by omega)
  ·intro i hi'
   by_cases h : i < F.length
   ·obtain ⟨a, b, h1⟩ := hP.fok i h;refine ⟨a, b, ?_⟩;rw [List.take_append_of_le_length (by omega), List.getElem_append_left h];exact h1
   ·have e : i = F.length := by
     rw [List.length_append] at hi';simp only [List.length_cons, List.length_nil] at hi';omega
    subst e;refine ⟨z, u, ?_⟩;rw [List.take_append_of_le_length (by omega), List.take_length, List.getElem_append_right (by omega)];simp only [Nat.sub_self, List.getElem_cons_zero]
    exact ⟨hz, hu, za, ua, trivial, hn, by omega, by omega⟩
  ·have h1 := takO_len x y bs ys;have h2 := hP.len;rw [List.length_append];simp only [List.length_cons, List.length_nil] at h2 ⊢;omega
 ·refine ⟨by simp [sumN], by simp [sumN], ?_, ?_, fun i h => absurd h (by simp), by simp; omega⟩
  ·exact (cut_zero hm.tb).symm
  ·exact (cut_zero hm.ta).symm
end Go.Proofs.YtiinigifjdpicaaGreatDoor
