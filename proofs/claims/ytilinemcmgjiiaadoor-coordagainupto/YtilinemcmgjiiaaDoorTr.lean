/- A transaction in memory, and its copy: walked. -/
import Derived.Test.YtilinemcmgjiiaaDoorCe
import Derived.Test.YtilinemcmgjiiaaDoorFit
import Derived.Deep.MidRow
import Derived.Maps.RangeWalk
namespace Go.Proofs.YtilinemcmgjiiaaDoor
open Go.RowKit
set_option linter.all false
/-- A transaction at its coordinator, and where its lists lie. -/
structure TraX where
  c : Int
  q : Int
  r : ReqV
  ps : List PeeV
  pa : Option Addr
  pc : Nat
  st : Int
  am : List AmV
  ma : Option Addr
  mc : Nat
  cx : List CelX
  ca : Option Addr
  cc : Nat
  x : AnsX
structure TraV where
  c : Int
  q : Int
  r : ReqV
  ps : List PeeV
  st : Int
  am : List AmV
  ce : List CelV
  an : AnsV
def TraX.v (t : TraX) : TraV := ⟨t.c, t.q, t.r, t.ps, t.st, t.am, t.cx.map CelX.v, t.x.v⟩
def traE (t : TraX) : List Value := [.int .i64 t.c, .int .i64 t.q] ++ (reqC t.r).toList ++ [.slice t.pa t.ps.length t.pc, .int .i64 t.st, .slice t.ma t.am.length t.mc, .slice t.ca t.cx.length t.cc, .int .i64 t.x.v.code, .int .i64 t.x.v.num, t.x.am, t.x.fl]
theorem traK (t : TraX) : (traE t).length = 21 := rfl
theorem tra1 (t : TraX) : ∀ u ∈ traE t, u.oneCell' = true := by
  intro u hu
  simp only [traE, reqC, AnsX.am, AnsX.fl, List.cons_append, List.nil_append, List.mem_cons, List.not_mem_nil, or_false] at hu
  rcases hu with rfl | rfl | rfl | rfl | rfl | rfl | rfl | rfl | rfl | rfl | rfl | rfl | rfl | rfl | rfl | rfl | rfl | rfl | rfl | rfl | rfl <;> rfl
structure TraAt (w : World) (t : TraX) : Prop where
  p : Pees w (.slice t.pa t.ps.length t.pc) t.ps
  m : Ams w (.slice t.ma t.am.length t.mc) t.am
  c : Cels w (.slice t.ca t.cx.length t.cc) t.cx
  x : AnsAt w t.x
theorem TraAt.keep {w w' : World} {t : TraX} (h : TraAt w t) (hb : Below w.heap.size w w') : TraAt w' t := ⟨h.p.keep hb, h.m.keep hb, h.c.keep hb, h.x.keep hb⟩
structure TraOwn (B : Nat) (w : World) (t : TraX) : Prop where
  p : w.ownsRow B 67 5 (.slice t.pa t.ps.length t.pc) t.ps.length (celC peeE t.ps)
  m : w.ownsRow B 72 2 (.slice t.ma t.am.length t.mc) t.am.length (celC amE t.am)
  c : CelsOwn B w (.slice t.ca t.cx.length t.cc) t.cx
  x : AnsOwn B w t.x
  sp : t.ps.length * 32 ≤ 140737488355328
  sm : t.am.length * 16 ≤ 140737488355328
theorem TraOwn.at_ {B : Nat} {w : World} {t : TraX} (h : TraOwn B w t) : TraAt w t := ⟨own_sgot h.p h.sp, own_sgot h.m h.sm, h.c.at_, h.x.at_⟩
theorem TraOwn.keep {B : Nat} {w w' : World} {t : TraX} (h : TraOwn B w t) (hb : Below w.heap.size w w') : TraOwn B w' t := ⟨own_keep h.p hb, own_keep h.m hb, h.c.keep hb, h.x.keep hb, h.sp, h.sm⟩
theorem TraOwn.base {B B' : Nat} {w : World} {t : TraX} (h : TraOwn B w t) (hb : B' ≤ B) : TraOwn B' w t := ⟨own_base h.p hb, own_base h.m hb, h.c.base hb, h.x.base hb, h.sp, h.sm⟩
def TraBack (v : TraV) (w : World) (e : Ending) (w' : World) : Prop := ∃ y : TraX, e = .returned (.agg (traE y).toArray) ∧ y.v = v ∧ TraOwn w.heap.size w' y ∧ Below w.heap.size w w'
theorem CelOwn.out {F : Nat → Prop} {wa wb : World} {B : Nat} {c : CelX} (h : CelOwn B wa c) (ho : Out F wa wb) (hF : ∀ k, F k → k < B) : CelOwn B wb c := ⟨own_out h.f ho hF, own_out h.b ho hF, own_out h.a ho hF, own_out h.o ho hF, h.sf, h.sb, h.sa, h.so⟩
theorem CelsOwn.out {F : Nat → Prop} {wa wb : World} {B : Nat} {v : Value} {l : List CelX} (h : CelsOwn B wa v l) (ho : Out F wa wb) (hF : ∀ k, F k → k < B) : CelsOwn B wb v l := ⟨own_out h.row ho hF, fun c hc => (h.own c hc).out ho hF, h.siz⟩
theorem AnsOwn.out {F : Nat → Prop} {wa wb : World} {B : Nat} {x : AnsX} (h : AnsOwn B wa x) (ho : Out F wa wb) (hF : ∀ k, F k → k < B) : AnsOwn B wb x := ⟨own_out h.a ho hF, own_out h.f ho hF, h.sa, h.sf⟩
theorem results_cell {P : Program} {fn : Func} {k : Nat} {ty : TypeId} (hf : fn.results = #[.cell k ty]) {tmps : Array Value} {g : Nat} (ht : tmps.getD k undef = .pointer (some ⟨g, 0, none⟩)) {w : World} {cs : Array Value} {t : TypeId} (hg : w.heap[g]? = some (.cells cs t (0, 0))) {d : TypeDesc} (hu : P.underlying ty = some d) (hd : (match d with | .struct _ | .array _ _ => true | _ => false) = true) (hi : (P.info? ty).map (·.size) = some cs.size) : (results fn tmps).run P w = .ok (.agg cs) w := by
  have h := run_loadVar_row (P := P) w g t ty cs (0, 0) d hg hu hd hi
  unfold results
  rw [hf]
  rw [Array.getD_eq_getD_getElem?] at ht
  simp [ht, go_sem]
  simpa [go_sem] using h
set_option maxRecDepth 100000 in
set_option maxHeartbeats 16000000 in
theorem trans_is (x : TraX) (w : World) (h : TraAt w x) : Calls Tryd.prog 40 #[.agg (traE x).toArray] w (TraBack x.v w) := by
  have hs1 := h.p.1
  have hs2 := h.m.1
  have HP := hideIt (fun W (hW : Below w.heap.size w W) => cloneP_is (.slice x.pa x.ps.length x.pc) x.ps W (h.p.keep hW))
  have HM := hideIt (fun W (hW : Below w.heap.size w W) => cloneAs (.slice x.ma x.am.length x.mc) x.am W (h.m.keep hW))
  have HC := hideIt (fun W (hW : Below w.heap.size w W) => cells_is (.slice x.ca x.cx.length x.cc) x.cx W (h.c.keep hW))
  have HX := hideIt (fun W (hW : Below w.heap.size w W) => answer_is x.x W (h.x.keep hW))
  clear h
  obtain ⟨c, q, ⟨rk, ra, rl, rs, rd, rp, rn, ro, ⟨rkk, rkn⟩, rt⟩, ps, pa, pc, st, am, ma, mc, cx, ca, cc, ⟨⟨code, num, aam, fl⟩, aa, ac, fa, fc⟩⟩ := x
  unfold TraBack
  unfold CelLBack AnsBack at *
  simp only [traE, reqC, AnsX.am, AnsX.fl, AnsX.cs, List.cons_append, List.nil_append, List.length_map] at *
  have HS := hideIt (And.intro hs1 hs2)
  clear hs1 hs2
  obtain ⟨t1, t2, t3⟩ := two_heap w (.cells #[.int .i64 c, .int .i64 q, .int .i64 rk, .int .i64 ra, .int .i64 rl, .int .i64 rs, .int .i64 rd, .int .i64 rp, .int .i64 rn, .bool ro, .int .i64 rkk, .int .i64 rkn, .int .i64 rt, .slice pa ps.length pc, .int .i64 st, .slice ma am.length mc, .slice ca cx.length cc, .int .i64 code, .int .i64 num, .slice aa aam.length ac, .slice fa fl.length fc] 52) (.cells #[.int .i64 0, .int .i64 0, .int .i64 0, .int .i64 0, .int .i64 0, .int .i64 0, .int .i64 0, .int .i64 0, .int .i64 0, .bool false, .int .i64 0, .int .i64 0, .int .i64 0, .slice none 0 0, .int .i64 0, .slice none 0 0, .slice none 0 0, .int .i64 0, .int .i64 0, .slice none 0 0, .slice none 0 0] 52)
  have T1 := hideIt t1
  have T2 := hideIt t2
  have HB := hideIt (below2 w (.cells #[.int .i64 c, .int .i64 q, .int .i64 rk, .int .i64 ra, .int .i64 rl, .int .i64 rs, .int .i64 rd, .int .i64 rp, .int .i64 rn, .bool ro, .int .i64 rkk, .int .i64 rkn, .int .i64 rt, .slice pa ps.length pc, .int .i64 st, .slice ma am.length mc, .slice ca cx.length cc, .int .i64 code, .int .i64 num, .slice aa aam.length ac, .slice fa fl.length fc] 52) (.cells #[.int .i64 0, .int .i64 0, .int .i64 0, .int .i64 0, .int .i64 0, .int .i64 0, .int .i64 0, .int .i64 0, .int .i64 0, .bool false, .int .i64 0, .int .i64 0, .int .i64 0, .slice none 0 0, .int .i64 0, .slice none 0 0, .slice none 0 0, .int .i64 0, .int .i64 0, .slice none 0 0, .slice none 0 0] 52))
  have HT := hideIt t3
  clear t1 t2 t3
  go_enter Tryd.func40, Tryd.ntmps40
  go_upto_region 1 with fail
  generalize (w.alloc (.cells #[.int .i64 c, .int .i64 q, .int .i64 rk, .int .i64 ra, .int .i64 rl, .int .i64 rs, .int .i64 rd, .int .i64 rp, .int .i64 rn, .bool ro, .int .i64 rkk, .int .i64 rkn, .int .i64 rt, .slice pa ps.length pc, .int .i64 st, .slice ma am.length mc, .slice ca cx.length cc, .int .i64 code, .int .i64 num, .slice aa aam.length ac, .slice fa fl.length fc] 52)).alloc (.cells #[.int .i64 0, .int .i64 0, .int .i64 0, .int .i64 0, .int .i64 0, .int .i64 0, .int .i64 0, .int .i64 0, .int .i64 0, .bool false, .int .i64 0, .int .i64 0, .int .i64 0, .slice none 0 0, .int .i64 0, .slice none 0 0, .slice none 0 0, .int .i64 0, .int .i64 0, .slice none 0 0, .slice none 0 0] 52) = W0 at *
  have hz0 : w.heap.size + 2 ≤ W0.heap.size := by have := HT.out; omega
  clear HT
  obtain ⟨⟨g0, g1, g2, g3, g4, g5, g6, g7, g8, g9, g10, g11, g12, g13, g14, g15, g16, g17, g18, g19, g20⟩, cf, cz⟩ := at21 T1.out
  go_wp2_with fail
  refine (HP.out _ HB.out).mono ?_
  rintro e w1 ⟨b1, d1, rfl, ho, hb⟩
  dsimp only
  have T10 : Hid ((w1.setCell ⟨w.heap.size, 13, none⟩ (.slice b1 ps.length d1)).heap[w.heap.size]? = some (.cells #[.int .i64 c, .int .i64 q, .int .i64 rk, .int .i64 ra, .int .i64 rl, .int .i64 rs, .int .i64 rd, .int .i64 rp, .int .i64 rn, .bool ro, .int .i64 rkk, .int .i64 rkn, .int .i64 rt, .slice b1 ps.length d1, .int .i64 st, .slice ma am.length mc, .slice ca cx.length cc, .int .i64 code, .int .i64 num, .slice aa aam.length ac, .slice fa fl.length fc] 52 (0, 0))) := heap_set (blkK T1.out hb) 13 _
  have T20 := hideIt (setOther (b := w.heap.size) (j := 13) (.slice b1 ps.length d1) (blkK T2.out hb) (by omega))
  have O1 := hideIt (own_base (ownSet (b := w.heap.size) (j := 13) (.slice b1 ps.length d1) (ho) (by omega)) hz0)
  have B0 : Hid (Below w.heap.size w (w1.setCell ⟨w.heap.size, 13, none⟩ (.slice b1 ps.length d1))) := belowSet _ (below_via HB.out hb) (Nat.le_refl _)
  have hz1 : w.heap.size + 2 ≤ (w1.setCell ⟨w.heap.size, 13, none⟩ (.slice b1 ps.length d1)).heap.size := by have := hb.size; simp; omega
  obtain ⟨⟨e0, e1, e2, e3, e4, e5, e6, e7, e8, e9, e10, e11, e12, e13, e14, e15, e16, e17, e18, e19, e20⟩, df, dz⟩ := at21 (blkK T1.out hb)
  clear ho hb g0 g1 g2 g3 g4 g5 g6 g7 g8 g9 g10 g11 g12 g13 g14 g15 g16 g17 g18 g19 g20 cf cz T1 T2 HB HP 
  go_upto_region 2 with fail
  clear e0 e1 e2 e3 e4 e5 e6 e7 e8 e9 e10 e11 e12 e13 e14 e15 e16 e17 e18 e19 e20 df dz
  generalize (w1.setCell ⟨w.heap.size, 13, none⟩ (.slice b1 ps.length d1)) = W1 at *
  obtain ⟨⟨g0, g1, g2, g3, g4, g5, g6, g7, g8, g9, g10, g11, g12, g13, g14, g15, g16, g17, g18, g19, g20⟩, cf, cz⟩ := at21 T10.out
  go_wp2_with fail
  refine (HM.out _ B0.out).mono ?_
  rintro e w2 ⟨b2, d2, rfl, ho, hb⟩
  dsimp only
  have T11 : Hid ((w2.setCell ⟨w.heap.size, 15, none⟩ (.slice b2 am.length d2)).heap[w.heap.size]? = some (.cells #[.int .i64 c, .int .i64 q, .int .i64 rk, .int .i64 ra, .int .i64 rl, .int .i64 rs, .int .i64 rd, .int .i64 rp, .int .i64 rn, .bool ro, .int .i64 rkk, .int .i64 rkn, .int .i64 rt, .slice b1 ps.length d1, .int .i64 st, .slice b2 am.length d2, .slice ca cx.length cc, .int .i64 code, .int .i64 num, .slice aa aam.length ac, .slice fa fl.length fc] 52 (0, 0))) := heap_set (blkK T10.out hb) 15 _
  have T21 := hideIt (setOther (b := w.heap.size) (j := 15) (.slice b2 am.length d2) (blkK T20.out hb) (by omega))
  have O1n := hideIt (ownSet (b := w.heap.size) (j := 15) (.slice b2 am.length d2) (own_keep O1.out hb) (by omega))
  have O2 := hideIt (own_base (ownSet (b := w.heap.size) (j := 15) (.slice b2 am.length d2) (ho) (by omega)) hz1)
  have B1 : Hid (Below w.heap.size w (w2.setCell ⟨w.heap.size, 15, none⟩ (.slice b2 am.length d2))) := belowSet _ (below_via B0.out hb) (Nat.le_refl _)
  have hz2 : w.heap.size + 2 ≤ (w2.setCell ⟨w.heap.size, 15, none⟩ (.slice b2 am.length d2)).heap.size := by have := hb.size; simp; omega
  obtain ⟨⟨e0, e1, e2, e3, e4, e5, e6, e7, e8, e9, e10, e11, e12, e13, e14, e15, e16, e17, e18, e19, e20⟩, df, dz⟩ := at21 (blkK T10.out hb)
  clear ho hb g0 g1 g2 g3 g4 g5 g6 g7 g8 g9 g10 g11 g12 g13 g14 g15 g16 g17 g18 g19 g20 cf cz T10 T20 B0 HM O1
  have O1 := O1n
  clear O1n
  go_upto_region 3 with fail
  clear e0 e1 e2 e3 e4 e5 e6 e7 e8 e9 e10 e11 e12 e13 e14 e15 e16 e17 e18 e19 e20 df dz
  generalize (w2.setCell ⟨w.heap.size, 15, none⟩ (.slice b2 am.length d2)) = W2 at *
  obtain ⟨⟨g0, g1, g2, g3, g4, g5, g6, g7, g8, g9, g10, g11, g12, g13, g14, g15, g16, g17, g18, g19, g20⟩, cf, cz⟩ := at21 T11.out
  go_wp2_with fail
  refine (HC.out _ B1.out).mono ?_
  rintro e w3 ⟨b3, d3, ys, rfl, hyv, ho, hb⟩
  dsimp only
  have HYV := hideIt hyv
  clear hyv
  have T12 : Hid ((w3.setCell ⟨w.heap.size, 16, none⟩ (.slice b3 cx.length d3)).heap[w.heap.size]? = some (.cells #[.int .i64 c, .int .i64 q, .int .i64 rk, .int .i64 ra, .int .i64 rl, .int .i64 rs, .int .i64 rd, .int .i64 rp, .int .i64 rn, .bool ro, .int .i64 rkk, .int .i64 rkn, .int .i64 rt, .slice b1 ps.length d1, .int .i64 st, .slice b2 am.length d2, .slice b3 cx.length d3, .int .i64 code, .int .i64 num, .slice aa aam.length ac, .slice fa fl.length fc] 52 (0, 0))) := heap_set (blkK T11.out hb) 16 _
  have T22 := hideIt (setOther (b := w.heap.size) (j := 16) (.slice b3 cx.length d3) (blkK T21.out hb) (by omega))
  have O1n := hideIt (ownSet (b := w.heap.size) (j := 16) (.slice b3 cx.length d3) (own_keep O1.out hb) (by omega))
  have O2n := hideIt (ownSet (b := w.heap.size) (j := 16) (.slice b3 cx.length d3) (own_keep O2.out hb) (by omega))
  have O3 := hideIt ((CelsOwn.out (ho) (Out.ofSet (F := fun k => k = w.heap.size) _ ⟨w.heap.size, 16, none⟩ (.slice b3 cx.length d3) rfl) (fun k hk => by omega)).base hz2)
  have B2 : Hid (Below w.heap.size w (w3.setCell ⟨w.heap.size, 16, none⟩ (.slice b3 cx.length d3))) := belowSet _ (below_via B1.out hb) (Nat.le_refl _)
  have hz3 : w.heap.size + 2 ≤ (w3.setCell ⟨w.heap.size, 16, none⟩ (.slice b3 cx.length d3)).heap.size := by have := hb.size; simp; omega
  obtain ⟨⟨e0, e1, e2, e3, e4, e5, e6, e7, e8, e9, e10, e11, e12, e13, e14, e15, e16, e17, e18, e19, e20⟩, df, dz⟩ := at21 (blkK T11.out hb)
  clear ho hb g0 g1 g2 g3 g4 g5 g6 g7 g8 g9 g10 g11 g12 g13 g14 g15 g16 g17 g18 g19 g20 cf cz T11 T21 B1 HC O1 O2
  have O1 := O1n
  clear O1n
  have O2 := O2n
  clear O2n
  go_upto_region 4 with fail
  clear e0 e1 e2 e3 e4 e5 e6 e7 e8 e9 e10 e11 e12 e13 e14 e15 e16 e17 e18 e19 e20 df dz
  generalize (w3.setCell ⟨w.heap.size, 16, none⟩ (.slice b3 cx.length d3)) = W3 at *
  obtain ⟨⟨g0, g1, g2, g3, g4, g5, g6, g7, g8, g9, g10, g11, g12, g13, g14, g15, g16, g17, g18, g19, g20⟩, cf, cz⟩ := at21 T12.out
  go_wp2_with fail
  refine (HX.out _ B2.out).mono ?_
  rintro e w4 ⟨⟨⟨code, num, aam, fl⟩, b4, d4, b5, d5⟩, rfl, hyx, ho, hb⟩
  dsimp only
  simp only [AnsV.mk.injEq] at hyx
  obtain ⟨rfl, rfl, rfl, rfl⟩ := hyx
  have T13 : Hid (((((w4.setCell ⟨w.heap.size, 17, none⟩ (.int .i64 code)).setCell ⟨w.heap.size, 18, none⟩ (.int .i64 num)).setCell ⟨w.heap.size, 19, none⟩ (.slice b4 aam.length d4)).setCell ⟨w.heap.size, 20, none⟩ (.slice b5 fl.length d5)).heap[w.heap.size]? = some (.cells #[.int .i64 c, .int .i64 q, .int .i64 rk, .int .i64 ra, .int .i64 rl, .int .i64 rs, .int .i64 rd, .int .i64 rp, .int .i64 rn, .bool ro, .int .i64 rkk, .int .i64 rkn, .int .i64 rt, .slice b1 ps.length d1, .int .i64 st, .slice b2 am.length d2, .slice b3 cx.length d3, .int .i64 code, .int .i64 num, .slice b4 aam.length d4, .slice b5 fl.length d5] 52 (0, 0))) := heap_set (heap_set (heap_set (heap_set (blkK T12.out hb) 17 _) 18 _) 19 _) 20 _
  have T23 := hideIt (setOther (b := w.heap.size) (j := 20) (.slice b5 fl.length d5) (setOther (b := w.heap.size) (j := 19) (.slice b4 aam.length d4) (setOther (b := w.heap.size) (j := 18) (.int .i64 num) (setOther (b := w.heap.size) (j := 17) (.int .i64 code) (blkK T22.out hb) (by omega)) (by omega)) (by omega)) (by omega))
  have O1n := hideIt (ownSet (b := w.heap.size) (j := 20) (.slice b5 fl.length d5) (ownSet (b := w.heap.size) (j := 19) (.slice b4 aam.length d4) (ownSet (b := w.heap.size) (j := 18) (.int .i64 num) (ownSet (b := w.heap.size) (j := 17) (.int .i64 code) (own_keep O1.out hb) (by omega)) (by omega)) (by omega)) (by omega))
  have O2n := hideIt (ownSet (b := w.heap.size) (j := 20) (.slice b5 fl.length d5) (ownSet (b := w.heap.size) (j := 19) (.slice b4 aam.length d4) (ownSet (b := w.heap.size) (j := 18) (.int .i64 num) (ownSet (b := w.heap.size) (j := 17) (.int .i64 code) (own_keep O2.out hb) (by omega)) (by omega)) (by omega)) (by omega))
  have O3n := hideIt (CelsOwn.out (CelsOwn.out (CelsOwn.out (CelsOwn.out (O3.out.keep hb) (Out.ofSet (F := fun k => k = w.heap.size) _ ⟨w.heap.size, 17, none⟩ (.int .i64 code) rfl) (fun k hk => by omega)) (Out.ofSet (F := fun k => k = w.heap.size) _ ⟨w.heap.size, 18, none⟩ (.int .i64 num) rfl) (fun k hk => by omega)) (Out.ofSet (F := fun k => k = w.heap.size) _ ⟨w.heap.size, 19, none⟩ (.slice b4 aam.length d4) rfl) (fun k hk => by omega)) (Out.ofSet (F := fun k => k = w.heap.size) _ ⟨w.heap.size, 20, none⟩ (.slice b5 fl.length d5) rfl) (fun k hk => by omega))
  have O4 := hideIt ((AnsOwn.out (AnsOwn.out (AnsOwn.out (AnsOwn.out (ho) (Out.ofSet (F := fun k => k = w.heap.size) _ ⟨w.heap.size, 17, none⟩ (.int .i64 code) rfl) (fun k hk => by omega)) (Out.ofSet (F := fun k => k = w.heap.size) _ ⟨w.heap.size, 18, none⟩ (.int .i64 num) rfl) (fun k hk => by omega)) (Out.ofSet (F := fun k => k = w.heap.size) _ ⟨w.heap.size, 19, none⟩ (.slice b4 aam.length d4) rfl) (fun k hk => by omega)) (Out.ofSet (F := fun k => k = w.heap.size) _ ⟨w.heap.size, 20, none⟩ (.slice b5 fl.length d5) rfl) (fun k hk => by omega)).base hz3)
  have B3 : Hid (Below w.heap.size w ((((w4.setCell ⟨w.heap.size, 17, none⟩ (.int .i64 code)).setCell ⟨w.heap.size, 18, none⟩ (.int .i64 num)).setCell ⟨w.heap.size, 19, none⟩ (.slice b4 aam.length d4)).setCell ⟨w.heap.size, 20, none⟩ (.slice b5 fl.length d5))) := belowSet _ (belowSet _ (belowSet _ (belowSet _ (below_via B2.out hb) (Nat.le_refl _)) (Nat.le_refl _)) (Nat.le_refl _)) (Nat.le_refl _)
  have hz4 : w.heap.size + 2 ≤ ((((w4.setCell ⟨w.heap.size, 17, none⟩ (.int .i64 code)).setCell ⟨w.heap.size, 18, none⟩ (.int .i64 num)).setCell ⟨w.heap.size, 19, none⟩ (.slice b4 aam.length d4)).setCell ⟨w.heap.size, 20, none⟩ (.slice b5 fl.length d5)).heap.size := by have := hb.size; simp; omega
  obtain ⟨⟨e0, e1, e2, e3, e4, e5, e6, e7, e8, e9, e10, e11, e12, e13, e14, e15, e16, e17, e18, e19, e20⟩, df, dz⟩ := at21 (blkK T12.out hb)
  clear ho hb g0 g1 g2 g3 g4 g5 g6 g7 g8 g9 g10 g11 g12 g13 g14 g15 g16 g17 g18 g19 g20 cf cz T12 T22 B2 HX O1 O2 O3
  have O1 := O1n
  clear O1n
  have O2 := O2n
  clear O2n
  have O3 := O3n
  clear O3n
  go_upto_region 5 with fail
  clear e0 e1 e2 e3 e4 e5 e6 e7 e8 e9 e10 e11 e12 e13 e14 e15 e16 e17 e18 e19 e20 df dz
  generalize ((((w4.setCell ⟨w.heap.size, 17, none⟩ (.int .i64 code)).setCell ⟨w.heap.size, 18, none⟩ (.int .i64 num)).setCell ⟨w.heap.size, 19, none⟩ (.slice b4 aam.length d4)).setCell ⟨w.heap.size, 20, none⟩ (.slice b5 fl.length d5)) = W4 at *
  have hyl : ys.length = cx.length := by have := congrArg List.length HYV.out; simpa using this
  have HYL := hideIt hyl
  clear hyl
  have hrg : W4.rangeAt w.heap.size 0 [.int .i64 c, .int .i64 q, .int .i64 rk, .int .i64 ra, .int .i64 rl, .int .i64 rs, .int .i64 rd, .int .i64 rp, .int .i64 rn, .bool ro, .int .i64 rkk, .int .i64 rkn, .int .i64 rt, .slice b1 ps.length d1, .int .i64 st, .slice b2 am.length d2, .slice b3 cx.length d3, .int .i64 code, .int .i64 num, .slice b4 aam.length d4, .slice b5 fl.length d5] := fun j v hv => by
    rw [Nat.zero_add, cell_at T13.out, List.getElem?_toArray]
    exact hv
  have hzz : (W4.setRow (w.heap.size + 1) #[.int .i64 c, .int .i64 q, .int .i64 rk, .int .i64 ra, .int .i64 rl, .int .i64 rs, .int .i64 rd, .int .i64 rp, .int .i64 rn, .bool ro, .int .i64 rkk, .int .i64 rkn, .int .i64 rt, .slice b1 ps.length d1, .int .i64 st, .slice b2 am.length d2, .slice b3 cx.length d3, .int .i64 code, .int .i64 num, .slice b4 aam.length d4, .slice b5 fl.length d5]).heap[w.heap.size + 1]? = some (.cells #[.int .i64 c, .int .i64 q, .int .i64 rk, .int .i64 ra, .int .i64 rl, .int .i64 rs, .int .i64 rd, .int .i64 rp, .int .i64 rn, .bool ro, .int .i64 rkk, .int .i64 rkn, .int .i64 rt, .slice b1 ps.length d1, .int .i64 st, .slice b2 am.length d2, .slice b3 cx.length d3, .int .i64 code, .int .i64 num, .slice b4 aam.length d4, .slice b5 fl.length d5] 52 (0, 0)) := setRow_heap _ _ _ _ _ _ T23.out
  have hoo : Out (fun k => k = w.heap.size + 1) W4 (W4.setRow (w.heap.size + 1) #[.int .i64 c, .int .i64 q, .int .i64 rk, .int .i64 ra, .int .i64 rl, .int .i64 rs, .int .i64 rd, .int .i64 rp, .int .i64 rn, .bool ro, .int .i64 rkk, .int .i64 rkn, .int .i64 rt, .slice b1 ps.length d1, .int .i64 st, .slice b2 am.length d2, .slice b3 cx.length d3, .int .i64 code, .int .i64 num, .slice b4 aam.length d4, .slice b5 fl.length d5]) := ⟨rfl, rfl, rfl, by simp, fun k _ hn => setRow_other _ _ _ _ hn⟩
  have HZZ := hideIt hzz
  have HOO := hideIt hoo
  clear hzz hoo
  refine wp_region_lit ?_
  refine wpList_load_mid rfl _ _ rfl w.heap.size 0 rfl [.int .i64 c, .int .i64 q, .int .i64 rk, .int .i64 ra, .int .i64 rl, .int .i64 rs, .int .i64 rd, .int .i64 rp, .int .i64 rn, .bool ro, .int .i64 rkk, .int .i64 rkn, .int .i64 rt, .slice b1 ps.length d1, .int .i64 st, .slice b2 am.length d2, .slice b3 cx.length d3, .int .i64 code, .int .i64 num, .slice b4 aam.length d4, .slice b5 fl.length d5] _ hrg Tryd.underlying52 rfl (by kernel_rfl) ?_
  go_frame
  refine wpList_store_row rfl _ _ _ rfl (w.heap.size + 1) #[.int .i64 c, .int .i64 q, .int .i64 rk, .int .i64 ra, .int .i64 rl, .int .i64 rs, .int .i64 rd, .int .i64 rp, .int .i64 rn, .bool ro, .int .i64 rkk, .int .i64 rkn, .int .i64 rt, .slice b1 ps.length d1, .int .i64 st, .slice b2 am.length d2, .slice b3 cx.length d3, .int .i64 code, .int .i64 num, .slice b4 aam.length d4, .slice b5 fl.length d5] rfl rfl _ _ T23.out (by kernel_rfl) rfl (by simp [Value.oneCell']) ?_
  go_frame
  generalize hW5 : W4.setRow (w.heap.size + 1) #[.int .i64 c, .int .i64 q, .int .i64 rk, .int .i64 ra, .int .i64 rl, .int .i64 rs, .int .i64 rd, .int .i64 rp, .int .i64 rn, .bool ro, .int .i64 rkk, .int .i64 rkn, .int .i64 rt, .slice b1 ps.length d1, .int .i64 st, .slice b2 am.length d2, .slice b3 cx.length d3, .int .i64 code, .int .i64 num, .slice b4 aam.length d4, .slice b5 fl.length d5] = W5 at *
  clear hW5 hrg
  go_wp2
  have hzz := HZZ.out
  have hoo := HOO.out
  have q1 := own_base (own_out O1.out hoo (fun k hk => by omega)) (show w.heap.size ≤ w.heap.size + 2 by omega)
  have q2 := own_base (own_out O2.out hoo (fun k hk => by omega)) (show w.heap.size ≤ w.heap.size + 2 by omega)
  have q3 := (O3.out.out hoo (fun k hk => by omega)).base (show w.heap.size ≤ w.heap.size + 2 by omega)
  have q4 := (O4.out.out hoo (fun k hk => by omega)).base (show w.heap.size ≤ w.heap.size + 2 by omega)
  rw [← HYL.out] at q3
  refine bodyPost_ret (v := .agg #[.int .i64 c, .int .i64 q, .int .i64 rk, .int .i64 ra, .int .i64 rl, .int .i64 rs, .int .i64 rd, .int .i64 rp, .int .i64 rn, .bool ro, .int .i64 rkk, .int .i64 rkn, .int .i64 rt, .slice b1 ps.length d1, .int .i64 st, .slice b2 am.length d2, .slice b3 cx.length d3, .int .i64 code, .int .i64 num, .slice b4 aam.length d4, .slice b5 fl.length d5]) (results_cell Tryd.results40 rfl hzz Tryd.underlying52 rfl (by kernel_rfl)) rfl ⟨⟨c, q, ⟨rk, ra, rl, rs, rd, rp, rn, ro, ⟨rkk, rkn⟩, rt⟩, ps, b1, d1, st, am, b2, d2, ys, b3, d3, ⟨⟨code, num, aam, fl⟩, b4, d4, b5, d5⟩⟩, ?_, ?_, ⟨q1, q2, q3, q4, HS.out.1, HS.out.2⟩, below_out B3.out hoo (fun k hk => by omega)⟩
  · rw [HYL.out]
  · unfold TraX.v
    simp only
    rw [HYV.out]
end Go.Proofs.YtilinemcmgjiiaaDoor
