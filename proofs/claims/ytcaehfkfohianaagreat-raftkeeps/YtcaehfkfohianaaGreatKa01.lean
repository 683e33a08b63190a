/- Texts of my own, laid together. -/
import Derived.Test.YtcaehfkfohianaaGreatZq
import Derived.Test.YtcaehfkfohianaaGreatPz23
import Derived.Test.YtcaehfkfohianaaGreatKa00
set_option linter.all false
namespace Go.Proofs.YtcaehfkfohianaaGreat
open Go.RowKit
theorem own_ne {w : World} {B N n : Nat} {a : Option Addr} {c : Nat} {t : TypeId} {cs : Array Value} {xs : List Value} (ho : w.ownsRow B 55 3 (.slice a n c) n xs) (hN : w.heap[N]? = some (.cells cs t (0, 0))) (ht : t ≠ 55) : ∀ b o, a = some ⟨b, o, none⟩ → b ≠ N := by
 intro b o e;obtain ⟨_, ⟨hv, _⟩ | ⟨g, cap, cur, hv, _, hg, _⟩⟩ := ho
 ·simp only [Value.slice.injEq] at hv;rw [hv.1] at e;cases e
 ·simp only [Value.slice.injEq] at hv;rw [hv.1] at e;simp only [Option.some.injEq, Addr.mk.injEq] at e;rw [← e.1];exact (ty_ne hN hg ht).symm
theorem egot_row {w : World} {a : Option Addr} {c N : Nat} {l : List EntV} {cs : Array Value} (h : EGot w (.slice a l.length c) l) (hN : 0 < l.length → ∀ b o, a = some ⟨b, o, none⟩ → b ≠ N) : EGot (w.setRow N cs) (.slice a l.length c) l := by
 obtain ⟨h8, a', c', e, hcc, hr⟩ := h;simp only [Value.slice.injEq, true_and] at e;obtain ⟨rfl, rfl⟩ := e;refine ⟨h8, a, c, rfl, hcc, fun hp => ?_⟩;obtain ⟨b, off, hb, hlt, hc⟩ := hr hp;refine ⟨b, off, hb, by rw [setRow_size]; exact hlt, fun j hj => ?_⟩
 rw [← hc j hj];have := setRow_other w N b cs (hN hp b off hb)
 simp [World.cell?, this]
structure KB (w : World) (N K : Nat) (v : KptV) (a : Option Addr) (c : Nat) (wr : World) : Prop where
 box : wr.heap[K]? = some (.cells #[.int .i64 v.ht, .int .i64 v.hv, .int .i64 v.si, .int .i64 v.st, .string v.tx, .slice a v.l.length c] 60 (0, 0))
 got : EGot wr (.slice a v.l.length c) v.l
 lt : w.heap.size ≤ K
 ne : 0 < v.l.length → ∀ b o, a = some ⟨b, o, none⟩ → b ≠ N
theorem KB.keep {w wr wy : World} {N K : Nat} {v : KptV} {a : Option Addr} {c : Nat} (h : KB w N K v a c wr) (hb : Below wr.heap.size wr wy) : KB w N K v a c wy := ⟨blkK h.box hb, h.got.keep hb, h.lt, h.ne⟩
theorem NIx.keep {w wr wy : World} {N : Nat} {d : NodeV} {gb gl gn gm : Value} {me n : Int} {E : Array Value} (h : NIx w N d gb gl gn gm me n E wr) (hb : Below wr.heap.size wr wy) : NIx w N d gb gl gn gm me n E wy :=
 ⟨⟨blkK h.nin.box hb, h.nin.at_.keep hb, h.nin.inv, below_via h.nin.bel hb, h.nin.hN⟩, blkK h.bx hb, h.lt, h.me, h.n⟩
theorem row6 {w : World} {K : Nat} {t : TypeId} {z0 z1 z2 z3 z4 z5 : Value} (v0 v1 v2 v3 v4 v5 : Value) (h : w.heap[K]? = some (.cells #[z0, z1, z2, z3, z4, z5] t (0, 0))) : ((((((w.setCell ⟨K, 0, none⟩ v0).setCell ⟨K, 1, none⟩ v1).setCell ⟨K, 2, none⟩ v2).setCell ⟨K, 3, none⟩ v3).setCell ⟨K, 4, none⟩ v4).setCell ⟨K, 5, none⟩ v5) = w.setRow K #[v0, v1, v2, v3, v4, v5] := by
 rw [setCell_eq_setRow _ K 0 _ t (0, 0) v0 h];rw [show (#[z0, z1, z2, z3, z4, z5] : Array Value).setIfInBounds 0 v0 = #[v0, z1, z2, z3, z4, z5] from rfl];rw [setCell_eq_setRow _ K 1 #[v0, z1, z2, z3, z4, z5] t (0, 0) v1 (setRow_heap w K _ _ t (0, 0) h), setRow_setRow];rw [show (#[v0, z1, z2, z3, z4, z5] : Array Value).setIfInBounds 1 v1 = #[v0, v1, z2, z3, z4, z5] from rfl];rw [setCell_eq_setRow _ K 2 #[v0, v1, z2, z3, z4, z5] t (0, 0) v2 (setRow_heap w K _ _ t (0, 0) h), setRow_setRow];rw [show (#[v0, v1, z2, z3, z4, z5] : Array Value).setIfInBounds 2 v2 = #[v0, v1, v2, z3, z4, z5] from rfl];rw [setCell_eq_setRow _ K 3 #[v0, v1, v2, z3, z4, z5] t (0, 0) v3 (setRow_heap w K _ _ t (0, 0) h), setRow_setRow];rw [show (#[v0, v1, v2, z3, z4, z5] : Array Value).setIfInBounds 3 v3 = #[v0, v1, v2, v3, z4, z5] from rfl];rw [setCell_eq_setRow _ K 4 #[v0, v1, v2, v3, z4, z5] t (0, 0) v4 (setRow_heap w K _ _ t (0, 0) h), setRow_setRow];rw [show (#[v0, v1, v2, v3, z4, z5] : Array Value).setIfInBounds 4 v4 = #[v0, v1, v2, v3, v4, z5] from rfl];rw [setCell_eq_setRow _ K 5 #[v0, v1, v2, v3, v4, z5] t (0, 0) v5 (setRow_heap w K _ _ t (0, 0) h), setRow_setRow];rw [show (#[v0, v1, v2, v3, v4, z5] : Array Value).setIfInBounds 5 v5 = #[v0, v1, v2, v3, v4, v5] from rfl]
structure KI (w : World) (N K p q B : Nat) (X : WkX) (nd E : Array Value) (v : KptV) (a : Option Addr) (c : Nat) (wz : World) : Prop where
 hp : wz.heap[p]? = some (.cells #[.int .i64 X.d.me, .int .i64 X.d.n, .int .i64 X.d.b.t, .int .i64 X.d.b.v, .int .i64 X.d.b.r, .slice X.ba X.d.b.l.length X.bc, .int .i64 X.d.ld, .int .i64 X.d.L.bi, .int .i64 X.d.L.bt, .slice X.la X.d.L.l.length X.lc, .int .i64 X.d.L.cm, .string X.d.tx, .slice X.na X.d.nx.length X.nc, .slice X.ma X.d.mt.length X.mc] 38 (0, 0))
 hq : wz.heap[q]? = some (.cells #[.slice X.ra X.R.length X.rc, .slice X.qa X.M.length X.qc, .int .i64 X.ix, .bool X.wt] 46 (0, 0))
 hn : wz.heap[N]? = some (.cells nd 38 (0, 0))
 bx : wz.heap[w.heap.size]? = some (.cells E 30 (0, 0))
 rows : WR B wz X
 bel : Below w.heap.size w wz
 kb : KB w N K v a c wz
 lt : K < B
theorem KI.keep {w wz wy : World} {N K p q B : Nat} {X : WkX} {nd E : Array Value} {v : KptV} {a : Option Addr} {c : Nat} (h : KI w N K p q B X nd E v a c wz) (hb : Below wz.heap.size wz wy) : KI w N K p q B X nd E v a c wy :=
 ⟨blkK h.hp hb, blkK h.hq hb, blkK h.hn hb, blkK h.bx hb, h.rows.keep hb, below_via h.bel hb, h.kb.keep hb, h.lt⟩
theorem KI.size {w wz : World} {N K p q B : Nat} {X : WkX} {nd E : Array Value} {v : KptV} {a : Option Addr} {c : Nat} (h : KI w N K p q B X nd E v a c wz) : K < wz.heap.size := (Array.getElem?_eq_some_iff.1 h.kb.box).1
theorem KI.put {w wz : World} {N K p q B B2 : Nat} {X : WkX} {nd E : Array Value} {v u : KptV} {a a2 : Option Addr} {c c2 : Nat} (h : KI w N K p q B X nd E v a c wz) (ho : wz.ownsRow B2 55 3 (.slice a2 u.l.length c2) u.l.length (entC u.l)) (hB : K < B2) (hl : u.l.length ≤ 400) : KI w N K p q B X nd E u a2 c2 (wz.setRow K #[.int .i64 u.ht, .int .i64 u.hv, .int .i64 u.si, .int .i64 u.st, .string u.tx, .slice a2 u.l.length c2]) :=
 ⟨(setRow_other _ K p _ (ty_ne h.hp h.kb.box (by decide))).trans h.hp, (setRow_other _ K q _ (ty_ne h.hq h.kb.box (by decide))).trans h.hq, (setRow_other _ K N _ (ty_ne h.hn h.kb.box (by decide))).trans h.hn, (setRow_other _ K _ _ (ty_ne h.bx h.kb.box (by decide))).trans h.bx, h.rows.row _ h.lt, below_out h.bel (setRow_out _ K _) (fun k e => by have := h.kb.lt; omega), ⟨setRow_heap _ K _ _ _ _ h.kb.box, own_egot (own_out ho (setRow_out _ K _) (fun k e => by omega)) (by omega), h.kb.lt, fun _ => own_ne ho h.hn (by decide)⟩, h.lt⟩
set_option maxRecDepth 100000 in
set_option maxHeartbeats 16000000 in
theorem keeps_is (me n t0 v si st : Int) (tx : ByteArray) (l : List EntV) (gl0 ge : Value) (ev : List EvX) (w : World) (hl : EGot w gl0 l) (ht : tx.size ≤ 140737488355328) (he : EvsGot w ge ev) : Calls Tryz.prog 5 #[.agg #[.int .i64 me, .int .i64 n, .int .i64 t0, .int .i64 v, .int .i64 si, .int .i64 st, .string tx, gl0], ge] w fun e w' => e = .returned (.bool true) ∧ Below w.heap.size w w' := by
 have hb0 := below1 w (.cells #[.int .i64 me, .int .i64 n, .int .i64 t0, .int .i64 v, .int .i64 si, .int .i64 st, .string tx, gl0] 30);have HS := hideIt (startN_is me n t0 v si st tx l gl0 (w.alloc (.cells #[.int .i64 me, .int .i64 n, .int .i64 t0, .int .i64 v, .int .i64 si, .int .i64 st, .string tx, gl0] 30)) (hl.keep hb0) ht);have HP := hideIt (heap_alloc_new w (.cells #[.int .i64 me, .int .i64 n, .int .i64 t0, .int .i64 v, .int .i64 si, .int .i64 st, .string tx, gl0] 30));have HB0 := hideIt hb0;have HSI := hideIt (start_go (me := me) (n := n) (t := t0) (v := v) (si := si) (st := st) (tx := tx) (l := l));have HGL := hideIt hl;obtain ⟨lo, lc0, rfl⟩ : ∃ a c, gl0 = .slice a l.length c := by
  obtain ⟨_, a, c, e, _⟩ := hl
  exact ⟨a, c, e⟩
 obtain ⟨ea, ec, rfl, ⟨hec1, hec2⟩, her⟩ := he;have HER := hideIt her;clear hb0 hl ht her;generalize startN me n t0 v si st tx l = Z at *;obtain ⟨d, er⟩ := Z;dsimp only at HS HSI
 go_enter Tryz.func5, Tryz.ntmps5
 go_upto_region 1 with fail
 generalize (World.alloc w _) = W0 at *;have hlt0 : w.heap.size < W0.heap.size := (Array.getElem?_eq_some_iff.1 HP.out).1;obtain ⟨⟨p0, p1, p2, p3, p4, p5, p6, p7⟩, pf, pz⟩ := at8 HP.out
 go_wp2_with fail
 refine HS.out.mono ?_;rintro r w1 ⟨gb, gl, gn, gm, rfl, ho, hb1⟩;dsimp only;clear p0 p1 p2 p3 p4 p5 p6 p7 pf pz HS;obtain ⟨ba, bc, rfl⟩ := Tm.own_len ho.b;obtain ⟨la, lc, rfl⟩ := own_len ho.l;obtain ⟨na, nc, rfl⟩ := Tm.own_len ho.n;obtain ⟨ma, mc, rfl⟩ := Tm.own_len ho.m;have hbn := below1 w1 (.cells #[.int .i64 d.me, .int .i64 d.n, .int .i64 d.b.t, .int .i64 d.b.v, .int .i64 d.b.r, .slice ba d.b.l.length bc, .int .i64 d.ld, .int .i64 d.L.bi, .int .i64 d.L.bt, .slice la d.L.l.length lc, .int .i64 d.L.cm, .string d.tx, .slice na d.nx.length nc, .slice ma d.mt.length mc] 38);have HB1 := hideIt (below_via (below_via HB0.out hb1) hbn);have HN1 := hideIt (heap_alloc_new w1 (.cells #[.int .i64 d.me, .int .i64 d.n, .int .i64 d.b.t, .int .i64 d.b.v, .int .i64 d.b.r, .slice ba d.b.l.length bc, .int .i64 d.ld, .int .i64 d.L.bi, .int .i64 d.L.bt, .slice la d.L.l.length lc, .int .i64 d.L.cm, .string d.tx, .slice na d.nx.length nc, .slice ma d.mt.length mc] 38));have HND := hideIt (fun (h0 : er = 0) => start_at ho (HSI.out h0).1 (HSI.out h0).2 hbn);have HIN := hideIt (fun (h0 : er = 0) => (HSI.out h0).1);have HEQ := hideIt (fun (h0 : er = 0) => (HSI.out h0).2);have HBX := hideIt (blkK (blkK HP.out hb1) hbn);have hsz : w.heap.size < w1.heap.size := by have h2 := hb1.size; omega
 clear ho hb1 hbn HB0 HSI HP hlt0;unfold nodA
 go_upto_region 2 with (refine wpList_store_row rfl 38 _ _ rfl w1.heap.size #[.int .i64 d.me, .int .i64 d.n, .int .i64 d.b.t, .int .i64 d.b.v, .int .i64 d.b.r, .slice ba d.b.l.length bc, .int .i64 d.ld, .int .i64 d.L.bi, .int .i64 d.L.bt, .slice la d.L.l.length lc, .int .i64 d.L.cm, .string d.tx, .slice na d.nx.length nc, .slice ma d.mt.length mc] rfl rfl 38 #[.int .i64 0, .int .i64 0, .int .i64 0, .int .i64 0, .int .i64 0, .slice none 0 0, .int .i64 0, .int .i64 0, .int .i64 0, .slice none 0 0, .int .i64 0, .string ⟨#[]⟩, .slice none 0 0, .slice none 0 0] (heap_alloc_new w1 _) (by kernel_rfl) (by rfl) (by simp [Value.oneCell']) ?_; rw [World.setRow_alloc_new])
 generalize (World.alloc w1 _) = W1 at *;generalize w1.heap.size = N at *
 by_cases h0 : er = 0
 ·subst h0;have HX0 : Hid (NIx w N d (.slice ba d.b.l.length bc) (.slice la d.L.l.length lc) (.slice na d.nx.length nc) (.slice ma d.mt.length mc) me n #[.int .i64 me, .int .i64 n, .int .i64 t0, .int .i64 v, .int .i64 si, .int .i64 st, .string tx, .slice lo l.length lc0] W1) := hideIt ⟨⟨HN1.out, HND.out rfl, HIN.out rfl, HB1.out, Nat.le_of_lt hsz⟩, HBX.out, hsz, by rw [HEQ.out rfl], by rw [HEQ.out rfl]⟩;clear HN1 HND HIN HB1 HBX hsz;have hdq := HEQ.out rfl;obtain ⟨⟨b0, b1, b2, b3, b4, b5, b6, b7⟩, bf, bz⟩ := at8 HX0.out.bx;have hbk := below1 W1 (.cells #[.int .i64 t0, .int .i64 v, .int .i64 si, .int .i64 st, .string tx, .slice lo l.length lc0] 60);have HK0 : Hid (KB w N W1.heap.size (kpt d d.b.t d.b.v) lo lc0 (W1.alloc (.cells #[.int .i64 t0, .int .i64 v, .int .i64 si, .int .i64 st, .string tx, .slice lo l.length lc0] 60))) := hideIt (by
   rw [hdq]
   exact ⟨heap_alloc_new W1 _, HGL.out.keep (below_via HX0.out.nin.bel hbk), HX0.out.nin.bel.size, fun hp b o e => by
    obtain ⟨_, a', c', e', _, hr⟩ := HGL.out;obtain ⟨b', o', hb', hlt', _⟩ := hr hp;simp only [Value.slice.injEq] at e';rw [e'.1, hb'] at e;simp only [Option.some.injEq, Addr.mk.injEq] at e;have hh := HX0.out.lt
    omega⟩)
  replace HX0 := hideIt (HX0.out.keep hbk)
  go_upto_region 5 with (refine wpList_store_row rfl 60 _ _ rfl W1.heap.size #[.int .i64 t0, .int .i64 v, .int .i64 si, .int .i64 st, .string tx, .slice lo l.length lc0] rfl rfl 60 #[.int .i64 0, .int .i64 0, .int .i64 0, .int .i64 0, .string ⟨#[]⟩, .slice none 0 0] (heap_alloc_new W1 _) (by kernel_rfl) (by rfl) (by simp [Value.oneCell']) ?_; rw [World.setRow_alloc_new])
  generalize (World.alloc W1 _) = W2 at *;generalize W1.heap.size = K at *;clear b0 b1 b2 b3 b4 b5 b6 b7 bf bz hbk hdq HGL HEQ
  go_wp2_with fail
  go_loopw [8] (fun i wr => ∃ (t : Nat) (d : NodeV) (gb gl gn gm : Value) (ka : Option Addr) (kc : Nat), t ≤ ev.length ∧ i = .int .i64 (t : Int) ∧ Hid (NIx w N d gb gl gn gm me n #[.int .i64 me, .int .i64 n, .int .i64 t0, .int .i64 v, .int .i64 si, .int .i64 st, .string tx, .slice lo l.length lc0] wr) ∧ Hid (KB w N K (kpt d d.b.t d.b.v) ka kc wr)) (fun i _ => ev.length - (intOf i).toNat)
  case atStart => exact ⟨0, d, _, _, _, _, lo, lc0, Nat.zero_le _, rfl, HX0, HK0⟩
  case round =>
   obtain ⟨t, d, gb, gl, gn, gm, ka, kc, ht, rfl, HX, HKB⟩ := hrel;clear HX0;have ht0 : (0 : Int) ≤ (t : Int) := by omega
   by_cases hlt : t < ev.length
   ·have hlt' : (t : Int) < (ev.length : Int) := by omega
    have hd1 : decide ((t : Int) < (ev.length : Int)) = true := decide_eq_true hlt'
    by_cases h40 : (t : Int) < 40
    ·have hd2 : decide ((t : Int) < 40) = true := decide_eq_true h40;obtain ⟨eb, off, rfl, hev0⟩ := HER.out t hlt;generalize ev.getD t zEv = x at *;have hev := hev0.keep HX.out.nin.bel;have HSB : Hid (∀ W, Below wr.heap.size wr W → W.heap[N]? = some (.cells #[.int .i64 d.me, .int .i64 d.n, .int .i64 d.b.t, .int .i64 d.b.v, .int .i64 d.b.r, gb, .int .i64 d.ld, .int .i64 d.L.bi, .int .i64 d.L.bt, gl, .int .i64 d.L.cm, .string d.tx, gn, gm] 38 (0, 0)) ∧ EvAt W eb (off + t * 16) x) := hideIt (fun W hW => ⟨blkK HX.out.nin.box hW, hev.keep hW⟩);have HCL : Hid (∀ W, Below wr.heap.size wr W → Calls Tryz.prog 11 #[.agg #[.int .i64 d.me, .int .i64 d.n, .int .i64 d.b.t, .int .i64 d.b.v, .int .i64 d.b.r, gb, .int .i64 d.ld, .int .i64 d.L.bi, .int .i64 d.L.bt, gl, .int .i64 d.L.cm, .string d.tx, gn, gm], .agg #[.int .i64 x.e.kind, .int .i64 x.e.idx, .string x.e.tx, .int .i64 x.e.m.kind, .int .i64 x.e.m.frm, .int .i64 x.e.m.dst, .int .i64 x.e.m.term, .int .i64 x.e.m.pi, .int .i64 x.e.m.pt, .slice x.a x.e.m.es.length x.c, .int .i64 x.e.m.cm, .bool x.e.m.ok, .int .i64 x.e.m.mtch, .int .i64 x.e.m.si, .int .i64 x.e.m.st, .string x.e.m.tx]] W fun r w' => ∃ X' : WkX, r = .returned (.tuple #[.agg #[.int .i64 X'.d.me, .int .i64 X'.d.n, .int .i64 X'.d.b.t, .int .i64 X'.d.b.v, .int .i64 X'.d.b.r, .slice X'.ba X'.d.b.l.length X'.bc, .int .i64 X'.d.ld, .int .i64 X'.d.L.bi, .int .i64 X'.d.L.bt, .slice X'.la X'.d.L.l.length X'.lc, .int .i64 X'.d.L.cm, .string X'.d.tx, .slice X'.na X'.d.nx.length X'.nc, .slice X'.ma X'.d.mt.length X'.mc], .agg #[.slice X'.ra X'.R.length X'.rc, .slice X'.qa X'.M.length X'.qc, .int .i64 X'.ix, .bool X'.wt], .int .i64 (stepN d x.e).2]) ∧ X'.v = (stepN d x.e).1 ∧ WR W.heap.size w' X' ∧ Below W.heap.size W w') := hideIt (fun W hW => stepK_is d gb gl gn gm x.e x.a x.c W (HX.out.nin.at_.keep hW) (hev.keep hW).es HX.out.nin.inv hev.k);have hNlt : N < wr.heap.size := (Array.getElem?_eq_some_iff.1 HX.out.nin.box).1;have hxN : w.heap.size < N := HX.out.lt;have HHI := hideIt HX.out.nin.inv;have HHB := hideIt HX.out.nin.bel;have HHA := hideIt HX.out.nin.at_;have HHN := hideIt HX.out.nin.hN;have HBX := hideIt HX.out.bx;have HMN : Hid (d.me = me ∧ d.n = n) := hideIt ⟨HX.out.me, HX.out.n⟩;have HEK : Hid (i64B x.e.kind) := hideIt hev.k;clear HX hev hev0 hd1 hd2
     go_upto_region 8 with fail
     go_cut [9, 10, 11] from 47 to 56 (fun a b c wy => ∃ p q X', a = .pointer (some ⟨p, 0, none⟩) ∧ b = .pointer (some ⟨q, 0, none⟩) ∧ c = .int .i64 (stepN d x.e).2 ∧ Hid (wy.heap[p]? = some (.cells #[.int .i64 X'.d.me, .int .i64 X'.d.n, .int .i64 X'.d.b.t, .int .i64 X'.d.b.v, .int .i64 X'.d.b.r, .slice X'.ba X'.d.b.l.length X'.bc, .int .i64 X'.d.ld, .int .i64 X'.d.L.bi, .int .i64 X'.d.L.bt, .slice X'.la X'.d.L.l.length X'.lc, .int .i64 X'.d.L.cm, .string X'.d.tx, .slice X'.na X'.d.nx.length X'.nc, .slice X'.ma X'.d.mt.length X'.mc] 38 (0, 0)) ∧ wy.heap[q]? = some (.cells #[.slice X'.ra X'.R.length X'.rc, .slice X'.qa X'.M.length X'.qc, .int .i64 X'.ix, .bool X'.wt] 46 (0, 0)) ∧ X'.v = (stepN d x.e).1 ∧ WR wr.heap.size wy X' ∧ Below wr.heap.size wr wy))
     case first =>
      refine wp_region_held_drew (S := fun W => W.heap[N]? = some (.cells #[.int .i64 d.me, .int .i64 d.n, .int .i64 d.b.t, .int .i64 d.b.v, .int .i64 d.b.r, gb, .int .i64 d.ld, .int .i64 d.L.bi, .int .i64 d.L.bt, gl, .int .i64 d.L.cm, .string d.tx, gn, gm] 38 (0, 0)) ∧ EvAt W eb (off + t * 16) x) (by rfl) (HSB.out _ (Below.refl _ _).drew) (fun hHeld => ?_);refine wpAnyH_take (i := 0) (oi := ⟨some 48, _, _, _, _, _⟩) (v := ?_) rfl (by kernel_rfl) (by kernel_rfl) (by kernel_rfl) (fun _ _ _ h => h) (Or.inl ⟨by rfl, ?_⟩) (by assumption) ?_
      rotate_left
      ·intro w5 hSw;obtain ⟨⟨d0, d1, d2, d3, d4, d5, d6, d7, d8, d9, d10, d11, d12, d13⟩, df, dz⟩ := at14 hSw.1;go_simp
       (try with_reducible rfl)
      try simp only [aP, aQ, aA, aB, aC]
      refine wpAnyH_take (i := 1) (oi := ⟨some 49, _, _, _, _, _⟩) (v := ?_) rfl (by kernel_rfl) (by kernel_rfl) (by kernel_rfl) (fun _ _ _ h => h) (Or.inl ⟨by rfl, ?_⟩) (by assumption) ?_
      rotate_left
      ·intro w5 hSw
       (try dsimp only at hSw)
       go_simp
       (try with_reducible rfl)
      try simp only [aP, aQ, aA, aB, aC]
      refine wpAnyH_take (i := 2) (oi := ⟨some 50, _, _, _, _, _⟩) (v := ?_) rfl (by kernel_rfl) (by kernel_rfl) (by kernel_rfl) (fun _ _ _ h => h) (Or.inl ⟨by rfl, ?_⟩) (by assumption) ?_
      rotate_left
      ·intro w5 hSw
       (try dsimp only at hSw)
       go_simp
       (try with_reducible rfl)
      try simp only [aP, aQ, aA, aB, aC]
      refine wpAnyH_take (i := 3) (oi := ⟨some 51, _, _, _, _, _⟩) (v := ?_) rfl (by kernel_rfl) (by kernel_rfl) (by kernel_rfl) (fun _ _ _ h => h) (Or.inl ⟨by rfl, ?_⟩) (by assumption) ?_
      rotate_left
      ·intro w5 hSw
       (try dsimp only at hSw)
       go_simp
       (try with_reducible rfl)
      try simp only [aP, aQ, aA, aB, aC]
      refine wpAnyH_take (i := 4) (oi := ⟨some 52, _, _, _, _, _⟩) (v := ?_) rfl (by kernel_rfl) (by kernel_rfl) (by kernel_rfl) (fun _ _ _ h => h) (Or.inl ⟨by rfl, ?_⟩) (by assumption) ?_
      rotate_left
      ·intro w5 hSw;have c0 := hSw.2.c0; have c1 := hSw.2.c1; have c2 := hSw.2.c2; have c3 := hSw.2.c3; have c4 := hSw.2.c4; have c5 := hSw.2.c5; have c6 := hSw.2.c6; have c7 := hSw.2.c7; have c8 := hSw.2.c8; have c9 := hSw.2.c9; have c10 := hSw.2.c10; have c11 := hSw.2.c11; have c12 := hSw.2.c12; have c13 := hSw.2.c13; have c14 := hSw.2.c14; have c15 := hSw.2.c15
       go_simp
       (try with_reducible rfl)
      try simp only [aP, aQ, aA, aB, aC]
      refine wpAnyH_ready (rs := [5, 10, 11]) (by kernel_rfl) (by simp) ?_;refine (AllReadyH.cons (o := ⟨some 53, _, _, _, _, _⟩) rfl (fun Kx hK => ?_) (AllReadyH.cons (o := ⟨some 9, _, _, _, _, _⟩) rfl (fun Kx hK => ?_) (AllReadyH.cons (o := ⟨some 10, _, _, _, _, _⟩) rfl (fun Kx hK => ?_) AllReadyH.nil)))
      ·go_simp
       go_at_call 11
       refine (HCL.out _ (by first | exact (Below.refl _ _).drew | exact (below1 _ _).drew | exact below_via (Below.refl _ _).drew (below1 _ _) | exact (below_via (below1 _ _) (below1 _ _)).drew | exact below_via (below_via (Below.refl _ _).drew (below1 _ _)) (below1 _ _))).mono ?_;rintro r w5 ⟨X', rfl, hv, hr, hb⟩;have hbw : Below wr.heap.size wr w5 := below_via (by first | exact (Below.refl _ _).drew | exact (below1 _ _).drew | exact below_via (Below.refl _ _).drew (below1 _ _) | exact (below_via (below1 _ _) (below1 _ _)).drew | exact below_via (below_via (Below.refl _ _).drew (below1 _ _)) (below1 _ _)) hb;refine hK.out _ _ (HSB.out _ hbw) (fun hHeld => ?_);clear hK Kx
       try simp only [aP, aQ, aA, aB, aC]
       refine wpAnyH_take (i := 6) (oi := ⟨some 47, _, _, _, _, _⟩) (v := ?_) rfl (by kernel_rfl) (by kernel_rfl) (by kernel_rfl) (fun _ _ _ h => h) (Or.inl ⟨by rfl, ?_⟩) (by assumption) ?_
       rotate_left
       ·intro w5 hSw
        (try dsimp only at hSw)
        go_simp
        (try with_reducible rfl)
       try simp only [aP, aQ, aA, aB, aC]
       refine wpAnyH_take (i := 7) (oi := ⟨some 54, _, _, _, _, _⟩) (v := ?_) rfl (by kernel_rfl) (by kernel_rfl) (by kernel_rfl) (fun _ _ _ h => h) (Or.inl ⟨by rfl, ?_⟩) (by assumption) ?_
       rotate_left
       ·intro w5 hSw
        (try dsimp only at hSw)
        go_simp
        (try with_reducible rfl)
       try simp only [aP, aQ, aA, aB, aC]
       refine wpAnyH_take (i := 8) (oi := ⟨some 55, _, _, _, _, _⟩) (v := ?_) rfl (by kernel_rfl) (by kernel_rfl) (by kernel_rfl) (fun _ _ _ h => h) (Or.inl ⟨by rfl, ?_⟩) (by assumption) ?_
       rotate_left
       ·intro w5 hSw
        (try dsimp only at hSw)
        go_simp
        (try with_reducible rfl)
       try simp only [aP, aQ, aA, aB, aC]
       refine wpAnyH_take (i := 9) (oi := ⟨some 56, _, _, _, _, _⟩) (v := ?_) rfl (by kernel_rfl) (by kernel_rfl) (by kernel_rfl) (fun _ _ _ h => h) (Or.inl ⟨by rfl, ?_⟩) (by assumption) ?_
       rotate_left
       ·intro w5 hSw
        (try dsimp only at hSw)
        go_simp
        (try with_reducible rfl)
       try simp only [aP, aQ, aA, aB, aC]
       refine wpAnyH_ready (rs := [10, 11]) (by kernel_rfl) (by simp) ?_;refine (AllReadyH.cons (o := ⟨some 9, _, _, _, _, _⟩) rfl (fun Kx hK => ?_) (AllReadyH.cons (o := ⟨some 10, _, _, _, _, _⟩) rfl (fun Kx hK => ?_) AllReadyH.nil))
       ·go_simp;refine hK.out _ _ (HSB.out _ (below_via hbw (below1 _ _))) (fun hHeld => ?_);clear hK Kx
        try simp only [aP, aQ, aA, aB, aC]
        refine wpAnyH_ready (rs := [11]) (by kernel_rfl) (by simp) ?_;refine (AllReadyH.cons (o := ⟨some 10, _, _, _, _, _⟩) rfl (fun Kx hK => ?_) AllReadyH.nil)
        ·go_simp;refine hK.out _ _ (HSB.out _ (below_via (below_via hbw (below1 _ _)) (below1 _ _))) (fun hHeld => ?_);clear hK Kx
         try simp only [aP, aQ, aA, aB, aC]
         have hws : wr.heap.size ≤ w5.heap.size := hbw.size;have hBB : wr.heap.size ≤ wr.drew.heap.size := Nat.le_refl _;have F := two_new (V := wr) (w5 := w5) #[.int .i64 X'.d.me, .int .i64 X'.d.n, .int .i64 X'.d.b.t, .int .i64 X'.d.b.v, .int .i64 X'.d.b.r, .slice X'.ba X'.d.b.l.length X'.bc, .int .i64 X'.d.ld, .int .i64 X'.d.L.bi, .int .i64 X'.d.L.bt, .slice X'.la X'.d.L.l.length X'.lc, .int .i64 X'.d.L.cm, .string X'.d.tx, .slice X'.na X'.d.nx.length X'.nc, .slice X'.ma X'.d.mt.length X'.mc] #[.slice X'.ra X'.R.length X'.rc, .slice X'.qa X'.M.length X'.qc, .int .i64 X'.ix, .bool X'.wt] #[.int .i64 0, .int .i64 0, .int .i64 0, .int .i64 0, .int .i64 0, .slice none 0 0, .int .i64 0, .int .i64 0, .int .i64 0, .slice none 0 0, .int .i64 0, .string ⟨#[]⟩, .slice none 0 0, .slice none 0 0] #[.slice none 0 0, .slice none 0 0, .int .i64 0, .bool false] hr hbw;obtain ⟨f1, f2, f3, f4⟩ := F.out;have HF1 := hideIt f1;have HF2 := hideIt f2;have HF3 := hideIt (f3.base hBB);have HF4 := hideIt f4;have HGP : Hid ((((w5.alloc (.cells #[.int .i64 0, .int .i64 0, .int .i64 0, .int .i64 0, .int .i64 0, .slice none 0 0, .int .i64 0, .int .i64 0, .int .i64 0, .slice none 0 0, .int .i64 0, .string ⟨#[]⟩, .slice none 0 0, .slice none 0 0] 38)).alloc (.cells #[.slice none 0 0, .slice none 0 0, .int .i64 0, .bool false] 46))).heap[w5.heap.size]? = some (.cells #[.int .i64 0, .int .i64 0, .int .i64 0, .int .i64 0, .int .i64 0, .slice none 0 0, .int .i64 0, .int .i64 0, .int .i64 0, .slice none 0 0, .int .i64 0, .string ⟨#[]⟩, .slice none 0 0, .slice none 0 0] 38 (0, 0))) := hideIt (blkK (heap_alloc_new w5 _) (below1 _ _));have HGQ : Hid (((((w5.alloc (.cells #[.int .i64 0, .int .i64 0, .int .i64 0, .int .i64 0, .int .i64 0, .slice none 0 0, .int .i64 0, .int .i64 0, .int .i64 0, .slice none 0 0, .int .i64 0, .string ⟨#[]⟩, .slice none 0 0, .slice none 0 0] 38)).alloc (.cells #[.slice none 0 0, .slice none 0 0, .int .i64 0, .bool false] 46))).setRow (w5.heap.size) #[.int .i64 X'.d.me, .int .i64 X'.d.n, .int .i64 X'.d.b.t, .int .i64 X'.d.b.v, .int .i64 X'.d.b.r, .slice X'.ba X'.d.b.l.length X'.bc, .int .i64 X'.d.ld, .int .i64 X'.d.L.bi, .int .i64 X'.d.L.bt, .slice X'.la X'.d.L.l.length X'.lc, .int .i64 X'.d.L.cm, .string X'.d.tx, .slice X'.na X'.d.nx.length X'.nc, .slice X'.ma X'.d.mt.length X'.mc]).heap[w5.heap.size + 1]? = some (.cells #[.slice none 0 0, .slice none 0 0, .int .i64 0, .bool false] 46 (0, 0))) := hideIt ((setRow_other _ _ _ _ (by omega)).trans (alloc2_new _ _ _ _));have HBW : Hid (Below wr.heap.size wr ((((w5.alloc (.cells #[.int .i64 0, .int .i64 0, .int .i64 0, .int .i64 0, .int .i64 0, .slice none 0 0, .int .i64 0, .int .i64 0, .int .i64 0, .slice none 0 0, .int .i64 0, .string ⟨#[]⟩, .slice none 0 0, .slice none 0 0] 38)).alloc (.cells #[.slice none 0 0, .slice none 0 0, .int .i64 0, .bool false] 46))).setRow (w5.heap.size) #[.int .i64 X'.d.me, .int .i64 X'.d.n, .int .i64 X'.d.b.t, .int .i64 X'.d.b.v, .int .i64 X'.d.b.r, .slice X'.ba X'.d.b.l.length X'.bc, .int .i64 X'.d.ld, .int .i64 X'.d.L.bi, .int .i64 X'.d.L.bt, .slice X'.la X'.d.L.l.length X'.lc, .int .i64 X'.d.L.cm, .string X'.d.tx, .slice X'.na X'.d.nx.length X'.nc, .slice X'.ma X'.d.mt.length X'.mc])) := hideIt (below_out (below_via (below_via hbw (below1 _ _)) (below1 _ _)) (setRow_out _ (w5.heap.size) _) (fun k e => by omega));clear F f1 f2 f3 f4 hHeld;refine wpAnyH_ready (rs := [12]) (by kernel_rfl) (by simp) ?_;refine AllReadyH.cons (o := ⟨none, _, _, _, _, _⟩) rfl (fun Kx hK => ?_) AllReadyH.nil;refine step_store_rowK rfl 38 _ _ rfl (w5.heap.size) #[.int .i64 X'.d.me, .int .i64 X'.d.n, .int .i64 X'.d.b.t, .int .i64 X'.d.b.v, .int .i64 X'.d.b.r, .slice X'.ba X'.d.b.l.length X'.bc, .int .i64 X'.d.ld, .int .i64 X'.d.L.bi, .int .i64 X'.d.L.bt, .slice X'.la X'.d.L.l.length X'.lc, .int .i64 X'.d.L.cm, .string X'.d.tx, .slice X'.na X'.d.nx.length X'.nc, .slice X'.ma X'.d.mt.length X'.mc] rfl rfl 38 _ HGP.out (by kernel_rfl) (by rfl) (by simp [Value.oneCell']) ?_;refine hK.out _ _ (HSB.out _ HBW.out) (fun hHeld => ?_);clear hK Kx
         try simp only [aP, aQ, aA, aB, aC]
         refine wpAnyH_ready (rs := [13]) (by kernel_rfl) (by simp) ?_;refine AllReadyH.cons (o := ⟨none, _, _, _, _, _⟩) rfl (fun Kx hK => ?_) AllReadyH.nil;refine step_store_rowK rfl 46 _ _ rfl (w5.heap.size + 1) #[.slice X'.ra X'.R.length X'.rc, .slice X'.qa X'.M.length X'.qc, .int .i64 X'.ix, .bool X'.wt] rfl rfl 46 _ HGQ.out (by kernel_rfl) (by rfl) (by simp [Value.oneCell']) ?_;refine hK.out _ _ (HSB.out _ HF4.out) (fun hHeld => ?_);clear hK Kx
         try simp only [aP, aQ, aA, aB, aC]
         refine wpAnyH_take (i := 14) (oi := ⟨some 11, _, _, _, _, _⟩) (v := ?_) rfl (by kernel_rfl) (by kernel_rfl) (by kernel_rfl) (fun _ _ _ h => h) (Or.inl ⟨by rfl, ?_⟩) (by assumption) ?_
         rotate_left
         ·intro w5 hSw
          (try dsimp only at hSw)
          go_simp
          (try with_reducible rfl)
         try simp only [aP, aQ, aA, aB, aC]
         refine wpAnyH_done (by kernel_rfl) ?_ _;clear hHeld
         go_wp2_with fail
         go_meet
         exact ⟨_, _, X', rfl, rfl, rfl, hideIt ⟨HF1.out, HF2.out, hv, HF3.out, HF4.out⟩⟩
       ·go_simp;refine hK.out _ _ (HSB.out _ (below_via hbw (below1 _ _))) (fun hHeld => ?_);clear hK Kx
        try simp only [aP, aQ, aA, aB, aC]
        refine wpAnyH_ready (rs := [10]) (by kernel_rfl) (by simp) ?_;refine (AllReadyH.cons (o := ⟨some 9, _, _, _, _, _⟩) rfl (fun Kx hK => ?_) AllReadyH.nil)
        ·go_simp;refine hK.out _ _ (HSB.out _ (below_via (below_via hbw (below1 _ _)) (below1 _ _))) (fun hHeld => ?_);clear hK Kx
         try simp only [aP, aQ, aA, aB, aC]
         have hws : wr.heap.size ≤ w5.heap.size := hbw.size;have hBB : wr.heap.size ≤ wr.drew.heap.size := Nat.le_refl _;have F := two_wen (V := wr) (w5 := w5) #[.int .i64 X'.d.me, .int .i64 X'.d.n, .int .i64 X'.d.b.t, .int .i64 X'.d.b.v, .int .i64 X'.d.b.r, .slice X'.ba X'.d.b.l.length X'.bc, .int .i64 X'.d.ld, .int .i64 X'.d.L.bi, .int .i64 X'.d.L.bt, .slice X'.la X'.d.L.l.length X'.lc, .int .i64 X'.d.L.cm, .string X'.d.tx, .slice X'.na X'.d.nx.length X'.nc, .slice X'.ma X'.d.mt.length X'.mc] #[.slice X'.ra X'.R.length X'.rc, .slice X'.qa X'.M.length X'.qc, .int .i64 X'.ix, .bool X'.wt] #[.int .i64 0, .int .i64 0, .int .i64 0, .int .i64 0, .int .i64 0, .slice none 0 0, .int .i64 0, .int .i64 0, .int .i64 0, .slice none 0 0, .int .i64 0, .string ⟨#[]⟩, .slice none 0 0, .slice none 0 0] #[.slice none 0 0, .slice none 0 0, .int .i64 0, .bool false] hr hbw;obtain ⟨f1, f2, f3, f4⟩ := F.out;have HF1 := hideIt f1;have HF2 := hideIt f2;have HF3 := hideIt (f3.base hBB);have HF4 := hideIt f4;have HGP : Hid ((((w5.alloc (.cells #[.slice none 0 0, .slice none 0 0, .int .i64 0, .bool false] 46)).alloc (.cells #[.int .i64 0, .int .i64 0, .int .i64 0, .int .i64 0, .int .i64 0, .slice none 0 0, .int .i64 0, .int .i64 0, .int .i64 0, .slice none 0 0, .int .i64 0, .string ⟨#[]⟩, .slice none 0 0, .slice none 0 0] 38))).heap[w5.heap.size + 1]? = some (.cells #[.int .i64 0, .int .i64 0, .int .i64 0, .int .i64 0, .int .i64 0, .slice none 0 0, .int .i64 0, .int .i64 0, .int .i64 0, .slice none 0 0, .int .i64 0, .string ⟨#[]⟩, .slice none 0 0, .slice none 0 0] 38 (0, 0))) := hideIt (alloc2_new _ _ _ _);have HGQ : Hid (((((w5.alloc (.cells #[.slice none 0 0, .slice none 0 0, .int .i64 0, .bool false] 46)).alloc (.cells #[.int .i64 0, .int .i64 0, .int .i64 0, .int .i64 0, .int .i64 0, .slice none 0 0, .int .i64 0, .int .i64 0, .int .i64 0, .slice none 0 0, .int .i64 0, .string ⟨#[]⟩, .slice none 0 0, .slice none 0 0] 38))).setRow (w5.heap.size + 1) #[.int .i64 X'.d.me, .int .i64 X'.d.n, .int .i64 X'.d.b.t, .int .i64 X'.d.b.v, .int .i64 X'.d.b.r, .slice X'.ba X'.d.b.l.length X'.bc, .int .i64 X'.d.ld, .int .i64 X'.d.L.bi, .int .i64 X'.d.L.bt, .slice X'.la X'.d.L.l.length X'.lc, .int .i64 X'.d.L.cm, .string X'.d.tx, .slice X'.na X'.d.nx.length X'.nc, .slice X'.ma X'.d.mt.length X'.mc]).heap[w5.heap.size]? = some (.cells #[.slice none 0 0, .slice none 0 0, .int .i64 0, .bool false] 46 (0, 0))) := hideIt ((setRow_other _ _ _ _ (by omega)).trans (blkK (heap_alloc_new w5 _) (below1 _ _)));have HBW : Hid (Below wr.heap.size wr ((((w5.alloc (.cells #[.slice none 0 0, .slice none 0 0, .int .i64 0, .bool false] 46)).alloc (.cells #[.int .i64 0, .int .i64 0, .int .i64 0, .int .i64 0, .int .i64 0, .slice none 0 0, .int .i64 0, .int .i64 0, .int .i64 0, .slice none 0 0, .int .i64 0, .string ⟨#[]⟩, .slice none 0 0, .slice none 0 0] 38))).setRow (w5.heap.size + 1) #[.int .i64 X'.d.me, .int .i64 X'.d.n, .int .i64 X'.d.b.t, .int .i64 X'.d.b.v, .int .i64 X'.d.b.r, .slice X'.ba X'.d.b.l.length X'.bc, .int .i64 X'.d.ld, .int .i64 X'.d.L.bi, .int .i64 X'.d.L.bt, .slice X'.la X'.d.L.l.length X'.lc, .int .i64 X'.d.L.cm, .string X'.d.tx, .slice X'.na X'.d.nx.length X'.nc, .slice X'.ma X'.d.mt.length X'.mc])) := hideIt (below_out (below_via (below_via hbw (below1 _ _)) (below1 _ _)) (setRow_out _ (w5.heap.size + 1) _) (fun k e => by omega));clear F f1 f2 f3 f4 hHeld;refine wpAnyH_ready (rs := [12]) (by kernel_rfl) (by simp) ?_;refine AllReadyH.cons (o := ⟨none, _, _, _, _, _⟩) rfl (fun Kx hK => ?_) AllReadyH.nil;refine step_store_rowK rfl 38 _ _ rfl (w5.heap.size + 1) #[.int .i64 X'.d.me, .int .i64 X'.d.n, .int .i64 X'.d.b.t, .int .i64 X'.d.b.v, .int .i64 X'.d.b.r, .slice X'.ba X'.d.b.l.length X'.bc, .int .i64 X'.d.ld, .int .i64 X'.d.L.bi, .int .i64 X'.d.L.bt, .slice X'.la X'.d.L.l.length X'.lc, .int .i64 X'.d.L.cm, .string X'.d.tx, .slice X'.na X'.d.nx.length X'.nc, .slice X'.ma X'.d.mt.length X'.mc] rfl rfl 38 _ HGP.out (by kernel_rfl) (by rfl) (by simp [Value.oneCell']) ?_;refine hK.out _ _ (HSB.out _ HBW.out) (fun hHeld => ?_);clear hK Kx
         try simp only [aP, aQ, aA, aB, aC]
         refine wpAnyH_ready (rs := [13]) (by kernel_rfl) (by simp) ?_;refine AllReadyH.cons (o := ⟨none, _, _, _, _, _⟩) rfl (fun Kx hK => ?_) AllReadyH.nil;refine step_store_rowK rfl 46 _ _ rfl (w5.heap.size) #[.slice X'.ra X'.R.length X'.rc, .slice X'.qa X'.M.length X'.qc, .int .i64 X'.ix, .bool X'.wt] rfl rfl 46 _ HGQ.out (by kernel_rfl) (by rfl) (by simp [Value.oneCell']) ?_;refine hK.out _ _ (HSB.out _ HF4.out) (fun hHeld => ?_);clear hK Kx
         try simp only [aP, aQ, aA, aB, aC]
         refine wpAnyH_take (i := 14) (oi := ⟨some 11, _, _, _, _, _⟩) (v := ?_) rfl (by kernel_rfl) (by kernel_rfl) (by kernel_rfl) (fun _ _ _ h => h) (Or.inl ⟨by rfl, ?_⟩) (by assumption) ?_
         rotate_left
         ·intro w5 hSw
          (try dsimp only at hSw)
          go_simp
          (try with_reducible rfl)
         try simp only [aP, aQ, aA, aB, aC]
         refine wpAnyH_done (by kernel_rfl) ?_ _;clear hHeld
         go_wp2_with fail
         go_meet
         exact ⟨_, _, X', rfl, rfl, rfl, hideIt ⟨HF1.out, HF2.out, hv, HF3.out, HF4.out⟩⟩
      ·go_simp;refine hK.out _ _ (HSB.out _ (by first | exact (Below.refl _ _).drew | exact (below1 _ _).drew | exact below_via (Below.refl _ _).drew (below1 _ _) | exact (below_via (below1 _ _) (below1 _ _)).drew | exact below_via (below_via (Below.refl _ _).drew (below1 _ _)) (below1 _ _))) (fun hHeld => ?_);clear hK Kx
       try simp only [aP, aQ, aA, aB, aC]
       refine wpAnyH_ready (rs := [5, 11]) (by kernel_rfl) (by simp) ?_;refine (AllReadyH.cons (o := ⟨some 53, _, _, _, _, _⟩) rfl (fun Kx hK => ?_) (AllReadyH.cons (o := ⟨some 10, _, _, _, _, _⟩) rfl (fun Kx hK => ?_) AllReadyH.nil))
       ·go_simp
        go_at_call 11
        refine (HCL.out _ (by first | exact (Below.refl _ _).drew | exact (below1 _ _).drew | exact below_via (Below.refl _ _).drew (below1 _ _) | exact (below_via (below1 _ _) (below1 _ _)).drew | exact below_via (below_via (Below.refl _ _).drew (below1 _ _)) (below1 _ _))).mono ?_;rintro r w5 ⟨X', rfl, hv, hr, hb⟩;have hbw : Below wr.heap.size wr w5 := below_via (by first | exact (Below.refl _ _).drew | exact (below1 _ _).drew | exact below_via (Below.refl _ _).drew (below1 _ _) | exact (below_via (below1 _ _) (below1 _ _)).drew | exact below_via (below_via (Below.refl _ _).drew (below1 _ _)) (below1 _ _)) hb;refine hK.out _ _ (HSB.out _ hbw) (fun hHeld => ?_);clear hK Kx
        try simp only [aP, aQ, aA, aB, aC]
        refine wpAnyH_take (i := 6) (oi := ⟨some 47, _, _, _, _, _⟩) (v := ?_) rfl (by kernel_rfl) (by kernel_rfl) (by kernel_rfl) (fun _ _ _ h => h) (Or.inl ⟨by rfl, ?_⟩) (by assumption) ?_
        rotate_left
        ·intro w5 hSw
         (try dsimp only at hSw)
         go_simp
         (try with_reducible rfl)
        try simp only [aP, aQ, aA, aB, aC]
        refine wpAnyH_take (i := 7) (oi := ⟨some 54, _, _, _, _, _⟩) (v := ?_) rfl (by kernel_rfl) (by kernel_rfl) (by kernel_rfl) (fun _ _ _ h => h) (Or.inl ⟨by rfl, ?_⟩) (by assumption) ?_
        rotate_left
        ·intro w5 hSw
         (try dsimp only at hSw)
         go_simp
         (try with_reducible rfl)
        try simp only [aP, aQ, aA, aB, aC]
        refine wpAnyH_take (i := 8) (oi := ⟨some 55, _, _, _, _, _⟩) (v := ?_) rfl (by kernel_rfl) (by kernel_rfl) (by kernel_rfl) (fun _ _ _ h => h) (Or.inl ⟨by rfl, ?_⟩) (by assumption) ?_
        rotate_left
        ·intro w5 hSw
         (try dsimp only at hSw)
         go_simp
         (try with_reducible rfl)
        try simp only [aP, aQ, aA, aB, aC]
        refine wpAnyH_take (i := 9) (oi := ⟨some 56, _, _, _, _, _⟩) (v := ?_) rfl (by kernel_rfl) (by kernel_rfl) (by kernel_rfl) (fun _ _ _ h => h) (Or.inl ⟨by rfl, ?_⟩) (by assumption) ?_
        rotate_left
        ·intro w5 hSw
         (try dsimp only at hSw)
         go_simp
         (try with_reducible rfl)
        try simp only [aP, aQ, aA, aB, aC]
        refine wpAnyH_ready (rs := [11]) (by kernel_rfl) (by simp) ?_;refine (AllReadyH.cons (o := ⟨some 10, _, _, _, _, _⟩) rfl (fun Kx hK => ?_) AllReadyH.nil)
        ·go_simp;refine hK.out _ _ (HSB.out _ (below_via hbw (below1 _ _))) (fun hHeld => ?_);clear hK Kx
         try simp only [aP, aQ, aA, aB, aC]
         have hws : wr.heap.size ≤ w5.heap.size := hbw.size;have hlB : wr.heap.size < (wr.alloc (.cells #[.int .i64 0, .int .i64 0, .int .i64 0, .int .i64 0, .int .i64 0, .slice none 0 0, .int .i64 0, .int .i64 0, .int .i64 0, .slice none 0 0, .int .i64 0, .string ⟨#[]⟩, .slice none 0 0, .slice none 0 0] 38)).drew.heap.size := show wr.heap.size < (wr.alloc (.cells #[.int .i64 0, .int .i64 0, .int .i64 0, .int .i64 0, .int .i64 0, .slice none 0 0, .int .i64 0, .int .i64 0, .int .i64 0, .slice none 0 0, .int .i64 0, .string ⟨#[]⟩, .slice none 0 0, .slice none 0 0] 38)).heap.size by first | (simp; done) | (simp; omega)
         have hlt5 : wr.heap.size < w5.heap.size := Nat.lt_of_lt_of_le hlB hb.size;have hBB : wr.heap.size ≤ (wr.alloc (.cells #[.int .i64 0, .int .i64 0, .int .i64 0, .int .i64 0, .int .i64 0, .slice none 0 0, .int .i64 0, .int .i64 0, .int .i64 0, .slice none 0 0, .int .i64 0, .string ⟨#[]⟩, .slice none 0 0, .slice none 0 0] 38)).drew.heap.size := Nat.le_of_lt hlB;have hp0 : w5.heap[wr.heap.size]? = some (.cells #[.int .i64 0, .int .i64 0, .int .i64 0, .int .i64 0, .int .i64 0, .slice none 0 0, .int .i64 0, .int .i64 0, .int .i64 0, .slice none 0 0, .int .i64 0, .string ⟨#[]⟩, .slice none 0 0, .slice none 0 0] 38 (0, 0)) := blkK (w := (wr.alloc (.cells #[.int .i64 0, .int .i64 0, .int .i64 0, .int .i64 0, .int .i64 0, .slice none 0 0, .int .i64 0, .int .i64 0, .int .i64 0, .slice none 0 0, .int .i64 0, .string ⟨#[]⟩, .slice none 0 0, .slice none 0 0] 38)).drew) (heap_alloc_new wr _) hb;have F := two_q (V := wr) (w5 := w5) #[.int .i64 X'.d.me, .int .i64 X'.d.n, .int .i64 X'.d.b.t, .int .i64 X'.d.b.v, .int .i64 X'.d.b.r, .slice X'.ba X'.d.b.l.length X'.bc, .int .i64 X'.d.ld, .int .i64 X'.d.L.bi, .int .i64 X'.d.L.bt, .slice X'.la X'.d.L.l.length X'.lc, .int .i64 X'.d.L.cm, .string X'.d.tx, .slice X'.na X'.d.nx.length X'.nc, .slice X'.ma X'.d.mt.length X'.mc] #[.slice X'.ra X'.R.length X'.rc, .slice X'.qa X'.M.length X'.qc, .int .i64 X'.ix, .bool X'.wt] #[.slice none 0 0, .slice none 0 0, .int .i64 0, .bool false] hr hp0 hlB hbw (Nat.le_refl _);obtain ⟨f1, f2, f3, f4⟩ := F.out;have HF1 := hideIt f1;have HF2 := hideIt f2;have HF3 := hideIt (f3.base hBB);have HF4 := hideIt f4;have HGP : Hid (((w5.alloc (.cells #[.slice none 0 0, .slice none 0 0, .int .i64 0, .bool false] 46))).heap[wr.heap.size]? = some (.cells #[.int .i64 0, .int .i64 0, .int .i64 0, .int .i64 0, .int .i64 0, .slice none 0 0, .int .i64 0, .int .i64 0, .int .i64 0, .slice none 0 0, .int .i64 0, .string ⟨#[]⟩, .slice none 0 0, .slice none 0 0] 38 (0, 0))) := hideIt (blkK hp0 (below1 _ _));have HGQ : Hid ((((w5.alloc (.cells #[.slice none 0 0, .slice none 0 0, .int .i64 0, .bool false] 46))).setRow (wr.heap.size) #[.int .i64 X'.d.me, .int .i64 X'.d.n, .int .i64 X'.d.b.t, .int .i64 X'.d.b.v, .int .i64 X'.d.b.r, .slice X'.ba X'.d.b.l.length X'.bc, .int .i64 X'.d.ld, .int .i64 X'.d.L.bi, .int .i64 X'.d.L.bt, .slice X'.la X'.d.L.l.length X'.lc, .int .i64 X'.d.L.cm, .string X'.d.tx, .slice X'.na X'.d.nx.length X'.nc, .slice X'.ma X'.d.mt.length X'.mc]).heap[w5.heap.size]? = some (.cells #[.slice none 0 0, .slice none 0 0, .int .i64 0, .bool false] 46 (0, 0))) := hideIt ((setRow_other _ _ _ _ (by omega)).trans (heap_alloc_new w5 _));have HBW : Hid (Below wr.heap.size wr (((w5.alloc (.cells #[.slice none 0 0, .slice none 0 0, .int .i64 0, .bool false] 46))).setRow (wr.heap.size) #[.int .i64 X'.d.me, .int .i64 X'.d.n, .int .i64 X'.d.b.t, .int .i64 X'.d.b.v, .int .i64 X'.d.b.r, .slice X'.ba X'.d.b.l.length X'.bc, .int .i64 X'.d.ld, .int .i64 X'.d.L.bi, .int .i64 X'.d.L.bt, .slice X'.la X'.d.L.l.length X'.lc, .int .i64 X'.d.L.cm, .string X'.d.tx, .slice X'.na X'.d.nx.length X'.nc, .slice X'.ma X'.d.mt.length X'.mc])) := hideIt (below_out (below_via hbw (below1 _ _)) (setRow_out _ (wr.heap.size) _) (fun k e => by omega));clear F f1 f2 f3 f4 hHeld;refine wpAnyH_ready (rs := [12]) (by kernel_rfl) (by simp) ?_;refine AllReadyH.cons (o := ⟨none, _, _, _, _, _⟩) rfl (fun Kx hK => ?_) AllReadyH.nil;refine step_store_rowK rfl 38 _ _ rfl (wr.heap.size) #[.int .i64 X'.d.me, .int .i64 X'.d.n, .int .i64 X'.d.b.t, .int .i64 X'.d.b.v, .int .i64 X'.d.b.r, .slice X'.ba X'.d.b.l.length X'.bc, .int .i64 X'.d.ld, .int .i64 X'.d.L.bi, .int .i64 X'.d.L.bt, .slice X'.la X'.d.L.l.length X'.lc, .int .i64 X'.d.L.cm, .string X'.d.tx, .slice X'.na X'.d.nx.length X'.nc, .slice X'.ma X'.d.mt.length X'.mc] rfl rfl 38 _ HGP.out (by kernel_rfl) (by rfl) (by simp [Value.oneCell']) ?_;refine hK.out _ _ (HSB.out _ HBW.out) (fun hHeld => ?_);clear hK Kx
         try simp only [aP, aQ, aA, aB, aC]
         refine wpAnyH_ready (rs := [13]) (by kernel_rfl) (by simp) ?_;refine AllReadyH.cons (o := ⟨none, _, _, _, _, _⟩) rfl (fun Kx hK => ?_) AllReadyH.nil;refine step_store_rowK rfl 46 _ _ rfl (w5.heap.size) #[.slice X'.ra X'.R.length X'.rc, .slice X'.qa X'.M.length X'.qc, .int .i64 X'.ix, .bool X'.wt] rfl rfl 46 _ HGQ.out (by kernel_rfl) (by rfl) (by simp [Value.oneCell']) ?_;refine hK.out _ _ (HSB.out _ HF4.out) (fun hHeld => ?_);clear hK Kx
         try simp only [aP, aQ, aA, aB, aC]
         refine wpAnyH_take (i := 14) (oi := ⟨some 11, _, _, _, _, _⟩) (v := ?_) rfl (by kernel_rfl) (by kernel_rfl) (by kernel_rfl) (fun _ _ _ h => h) (Or.inl ⟨by rfl, ?_⟩) (by assumption) ?_
         rotate_left
         ·intro w5 hSw
          (try dsimp only at hSw)
          go_simp
          (try with_reducible rfl)
         try simp only [aP, aQ, aA, aB, aC]
         refine wpAnyH_done (by kernel_rfl) ?_ _;clear hHeld
         go_wp2_with fail
         go_meet
         exact ⟨_, _, X', rfl, rfl, rfl, hideIt ⟨HF1.out, HF2.out, hv, HF3.out, HF4.out⟩⟩
       ·go_simp;refine hK.out _ _ (HSB.out _ (by first | exact (Below.refl _ _).drew | exact (below1 _ _).drew | exact below_via (Below.refl _ _).drew (below1 _ _) | exact (below_via (below1 _ _) (below1 _ _)).drew | exact below_via (below_via (Below.refl _ _).drew (below1 _ _)) (below1 _ _))) (fun hHeld => ?_);clear hK Kx
        try simp only [aP, aQ, aA, aB, aC]
        refine wpAnyH_ready (rs := [5]) (by kernel_rfl) (by simp) ?_;refine (AllReadyH.cons (o := ⟨some 53, _, _, _, _, _⟩) rfl (fun Kx hK => ?_) AllReadyH.nil)
        ·go_simp
         go_at_call 11
         refine (HCL.out _ (by first | exact (Below.refl _ _).drew | exact (below1 _ _).drew | exact below_via (Below.refl _ _).drew (below1 _ _) | exact (below_via (below1 _ _) (below1 _ _)).drew | exact below_via (below_via (Below.refl _ _).drew (below1 _ _)) (below1 _ _))).mono ?_;rintro r w5 ⟨X', rfl, hv, hr, hb⟩;have hbw : Below wr.heap.size wr w5 := below_via (by first | exact (Below.refl _ _).drew | exact (below1 _ _).drew | exact below_via (Below.refl _ _).drew (below1 _ _) | exact (below_via (below1 _ _) (below1 _ _)).drew | exact below_via (below_via (Below.refl _ _).drew (below1 _ _)) (below1 _ _)) hb;refine hK.out _ _ (HSB.out _ hbw) (fun hHeld => ?_);clear hK Kx
         try simp only [aP, aQ, aA, aB, aC]
         refine wpAnyH_take (i := 6) (oi := ⟨some 47, _, _, _, _, _⟩) (v := ?_) rfl (by kernel_rfl) (by kernel_rfl) (by kernel_rfl) (fun _ _ _ h => h) (Or.inl ⟨by rfl, ?_⟩) (by assumption) ?_
         rotate_left
         ·intro w5 hSw
          (try dsimp only at hSw)
          go_simp
          (try with_reducible rfl)
         try simp only [aP, aQ, aA, aB, aC]
         refine wpAnyH_take (i := 7) (oi := ⟨some 54, _, _, _, _, _⟩) (v := ?_) rfl (by kernel_rfl) (by kernel_rfl) (by kernel_rfl) (fun _ _ _ h => h) (Or.inl ⟨by rfl, ?_⟩) (by assumption) ?_
         rotate_left
         ·intro w5 hSw
          (try dsimp only at hSw)
          go_simp
          (try with_reducible rfl)
         try simp only [aP, aQ, aA, aB, aC]
         refine wpAnyH_take (i := 8) (oi := ⟨some 55, _, _, _, _, _⟩) (v := ?_) rfl (by kernel_rfl) (by kernel_rfl) (by kernel_rfl) (fun _ _ _ h => h) (Or.inl ⟨by rfl, ?_⟩) (by assumption) ?_
         rotate_left
         ·intro w5 hSw
          (try dsimp only at hSw)
          go_simp
          (try with_reducible rfl)
         try simp only [aP, aQ, aA, aB, aC]
         refine wpAnyH_take (i := 9) (oi := ⟨some 56, _, _, _, _, _⟩) (v := ?_) rfl (by kernel_rfl) (by kernel_rfl) (by kernel_rfl) (fun _ _ _ h => h) (Or.inl ⟨by rfl, ?_⟩) (by assumption) ?_
         rotate_left
         ·intro w5 hSw
          (try dsimp only at hSw)
          go_simp
          (try with_reducible rfl)
         try simp only [aP, aQ, aA, aB, aC]
         have hws : wr.heap.size ≤ w5.heap.size := hbw.size;have hlB : wr.heap.size < ((wr.alloc (.cells #[.int .i64 0, .int .i64 0, .int .i64 0, .int .i64 0, .int .i64 0, .slice none 0 0, .int .i64 0, .int .i64 0, .int .i64 0, .slice none 0 0, .int .i64 0, .string ⟨#[]⟩, .slice none 0 0, .slice none 0 0] 38)).alloc (.cells #[.slice none 0 0, .slice none 0 0, .int .i64 0, .bool false] 46)).drew.heap.size := show wr.heap.size < ((wr.alloc (.cells #[.int .i64 0, .int .i64 0, .int .i64 0, .int .i64 0, .int .i64 0, .slice none 0 0, .int .i64 0, .int .i64 0, .int .i64 0, .slice none 0 0, .int .i64 0, .string ⟨#[]⟩, .slice none 0 0, .slice none 0 0] 38)).alloc (.cells #[.slice none 0 0, .slice none 0 0, .int .i64 0, .bool false] 46)).heap.size by first | (simp; done) | (simp; omega)
         have hlt5 : wr.heap.size < w5.heap.size := Nat.lt_of_lt_of_le hlB hb.size;have hlB1 : wr.heap.size + 1 < ((wr.alloc (.cells #[.int .i64 0, .int .i64 0, .int .i64 0, .int .i64 0, .int .i64 0, .slice none 0 0, .int .i64 0, .int .i64 0, .int .i64 0, .slice none 0 0, .int .i64 0, .string ⟨#[]⟩, .slice none 0 0, .slice none 0 0] 38)).alloc (.cells #[.slice none 0 0, .slice none 0 0, .int .i64 0, .bool false] 46)).drew.heap.size := show wr.heap.size + 1 < ((wr.alloc (.cells #[.int .i64 0, .int .i64 0, .int .i64 0, .int .i64 0, .int .i64 0, .slice none 0 0, .int .i64 0, .int .i64 0, .int .i64 0, .slice none 0 0, .int .i64 0, .string ⟨#[]⟩, .slice none 0 0, .slice none 0 0] 38)).alloc (.cells #[.slice none 0 0, .slice none 0 0, .int .i64 0, .bool false] 46)).heap.size by first | (simp; done) | (simp; omega)
         have hBB : wr.heap.size ≤ ((wr.alloc (.cells #[.int .i64 0, .int .i64 0, .int .i64 0, .int .i64 0, .int .i64 0, .slice none 0 0, .int .i64 0, .int .i64 0, .int .i64 0, .slice none 0 0, .int .i64 0, .string ⟨#[]⟩, .slice none 0 0, .slice none 0 0] 38)).alloc (.cells #[.slice none 0 0, .slice none 0 0, .int .i64 0, .bool false] 46)).drew.heap.size := Nat.le_of_lt hlB;have hp0 : w5.heap[wr.heap.size]? = some (.cells #[.int .i64 0, .int .i64 0, .int .i64 0, .int .i64 0, .int .i64 0, .slice none 0 0, .int .i64 0, .int .i64 0, .int .i64 0, .slice none 0 0, .int .i64 0, .string ⟨#[]⟩, .slice none 0 0, .slice none 0 0] 38 (0, 0)) := blkK (w := ((wr.alloc (.cells #[.int .i64 0, .int .i64 0, .int .i64 0, .int .i64 0, .int .i64 0, .slice none 0 0, .int .i64 0, .int .i64 0, .int .i64 0, .slice none 0 0, .int .i64 0, .string ⟨#[]⟩, .slice none 0 0, .slice none 0 0] 38)).alloc (.cells #[.slice none 0 0, .slice none 0 0, .int .i64 0, .bool false] 46)).drew) (blkK (heap_alloc_new wr _) (below1 _ _).drew) hb;have hq0 : w5.heap[wr.heap.size + 1]? = some (.cells #[.slice none 0 0, .slice none 0 0, .int .i64 0, .bool false] 46 (0, 0)) := blkK (w := ((wr.alloc (.cells #[.int .i64 0, .int .i64 0, .int .i64 0, .int .i64 0, .int .i64 0, .slice none 0 0, .int .i64 0, .int .i64 0, .int .i64 0, .slice none 0 0, .int .i64 0, .string ⟨#[]⟩, .slice none 0 0, .slice none 0 0] 38)).alloc (.cells #[.slice none 0 0, .slice none 0 0, .int .i64 0, .bool false] 46)).drew) (alloc2_new _ _ _ _) hb;have F := two_old (V := wr) (w5 := w5) #[.int .i64 X'.d.me, .int .i64 X'.d.n, .int .i64 X'.d.b.t, .int .i64 X'.d.b.v, .int .i64 X'.d.b.r, .slice X'.ba X'.d.b.l.length X'.bc, .int .i64 X'.d.ld, .int .i64 X'.d.L.bi, .int .i64 X'.d.L.bt, .slice X'.la X'.d.L.l.length X'.lc, .int .i64 X'.d.L.cm, .string X'.d.tx, .slice X'.na X'.d.nx.length X'.nc, .slice X'.ma X'.d.mt.length X'.mc] #[.slice X'.ra X'.R.length X'.rc, .slice X'.qa X'.M.length X'.qc, .int .i64 X'.ix, .bool X'.wt] hr hp0 hq0 (by omega) hlB hlB1 hbw (Nat.le_refl _) (Nat.le_succ _);obtain ⟨f1, f2, f3, f4⟩ := F.out;have HF1 := hideIt f1;have HF2 := hideIt f2;have HF3 := hideIt (f3.base hBB);have HF4 := hideIt f4;have HGP : Hid ((w5).heap[wr.heap.size]? = some (.cells #[.int .i64 0, .int .i64 0, .int .i64 0, .int .i64 0, .int .i64 0, .slice none 0 0, .int .i64 0, .int .i64 0, .int .i64 0, .slice none 0 0, .int .i64 0, .string ⟨#[]⟩, .slice none 0 0, .slice none 0 0] 38 (0, 0))) := hideIt (hp0);have HGQ : Hid (((w5).setRow (wr.heap.size) #[.int .i64 X'.d.me, .int .i64 X'.d.n, .int .i64 X'.d.b.t, .int .i64 X'.d.b.v, .int .i64 X'.d.b.r, .slice X'.ba X'.d.b.l.length X'.bc, .int .i64 X'.d.ld, .int .i64 X'.d.L.bi, .int .i64 X'.d.L.bt, .slice X'.la X'.d.L.l.length X'.lc, .int .i64 X'.d.L.cm, .string X'.d.tx, .slice X'.na X'.d.nx.length X'.nc, .slice X'.ma X'.d.mt.length X'.mc]).heap[wr.heap.size + 1]? = some (.cells #[.slice none 0 0, .slice none 0 0, .int .i64 0, .bool false] 46 (0, 0))) := hideIt ((setRow_other _ _ _ _ (by omega)).trans (hq0));have HBW : Hid (Below wr.heap.size wr ((w5).setRow (wr.heap.size) #[.int .i64 X'.d.me, .int .i64 X'.d.n, .int .i64 X'.d.b.t, .int .i64 X'.d.b.v, .int .i64 X'.d.b.r, .slice X'.ba X'.d.b.l.length X'.bc, .int .i64 X'.d.ld, .int .i64 X'.d.L.bi, .int .i64 X'.d.L.bt, .slice X'.la X'.d.L.l.length X'.lc, .int .i64 X'.d.L.cm, .string X'.d.tx, .slice X'.na X'.d.nx.length X'.nc, .slice X'.ma X'.d.mt.length X'.mc])) := hideIt (below_out (hbw) (setRow_out _ (wr.heap.size) _) (fun k e => by omega));clear F f1 f2 f3 f4 hHeld;refine wpAnyH_ready (rs := [12]) (by kernel_rfl) (by simp) ?_;refine AllReadyH.cons (o := ⟨none, _, _, _, _, _⟩) rfl (fun Kx hK => ?_) AllReadyH.nil;refine step_store_rowK rfl 38 _ _ rfl (wr.heap.size) #[.int .i64 X'.d.me, .int .i64 X'.d.n, .int .i64 X'.d.b.t, .int .i64 X'.d.b.v, .int .i64 X'.d.b.r, .slice X'.ba X'.d.b.l.length X'.bc, .int .i64 X'.d.ld, .int .i64 X'.d.L.bi, .int .i64 X'.d.L.bt, .slice X'.la X'.d.L.l.length X'.lc, .int .i64 X'.d.L.cm, .string X'.d.tx, .slice X'.na X'.d.nx.length X'.nc, .slice X'.ma X'.d.mt.length X'.mc] rfl rfl 38 _ HGP.out (by kernel_rfl) (by rfl) (by simp [Value.oneCell']) ?_;refine hK.out _ _ (HSB.out _ HBW.out) (fun hHeld => ?_);clear hK Kx
         try simp only [aP, aQ, aA, aB, aC]
         refine wpAnyH_ready (rs := [13]) (by kernel_rfl) (by simp) ?_;refine AllReadyH.cons (o := ⟨none, _, _, _, _, _⟩) rfl (fun Kx hK => ?_) AllReadyH.nil;refine step_store_rowK rfl 46 _ _ rfl (wr.heap.size + 1) #[.slice X'.ra X'.R.length X'.rc, .slice X'.qa X'.M.length X'.qc, .int .i64 X'.ix, .bool X'.wt] rfl rfl 46 _ HGQ.out (by kernel_rfl) (by rfl) (by simp [Value.oneCell']) ?_;refine hK.out _ _ (HSB.out _ HF4.out) (fun hHeld => ?_);clear hK Kx
         try simp only [aP, aQ, aA, aB, aC]
         refine wpAnyH_take (i := 14) (oi := ⟨some 11, _, _, _, _, _⟩) (v := ?_) rfl (by kernel_rfl) (by kernel_rfl) (by kernel_rfl) (fun _ _ _ h => h) (Or.inl ⟨by rfl, ?_⟩) (by assumption) ?_
         rotate_left
         ·intro w5 hSw
          (try dsimp only at hSw)
          go_simp
          (try with_reducible rfl)
         try simp only [aP, aQ, aA, aB, aC]
         refine wpAnyH_done (by kernel_rfl) ?_ _;clear hHeld
         go_wp2_with fail
         go_meet
         exact ⟨_, _, X', rfl, rfl, rfl, hideIt ⟨HF1.out, HF2.out, hv, HF3.out, HF4.out⟩⟩
      ·go_simp;refine hK.out _ _ (HSB.out _ (by first | exact (Below.refl _ _).drew | exact (below1 _ _).drew | exact below_via (Below.refl _ _).drew (below1 _ _) | exact (below_via (below1 _ _) (below1 _ _)).drew | exact below_via (below_via (Below.refl _ _).drew (below1 _ _)) (below1 _ _))) (fun hHeld => ?_);clear hK Kx
       try simp only [aP, aQ, aA, aB, aC]
       refine wpAnyH_ready (rs := [5, 10]) (by kernel_rfl) (by simp) ?_;refine (AllReadyH.cons (o := ⟨some 53, _, _, _, _, _⟩) rfl (fun Kx hK => ?_) (AllReadyH.cons (o := ⟨some 9, _, _, _, _, _⟩) rfl (fun Kx hK => ?_) AllReadyH.nil))
       ·go_simp
        go_at_call 11
        refine (HCL.out _ (by first | exact (Below.refl _ _).drew | exact (below1 _ _).drew | exact below_via (Below.refl _ _).drew (below1 _ _) | exact (below_via (below1 _ _) (below1 _ _)).drew | exact below_via (below_via (Below.refl _ _).drew (below1 _ _)) (below1 _ _))).mono ?_;rintro r w5 ⟨X', rfl, hv, hr, hb⟩;have hbw : Below wr.heap.size wr w5 := below_via (by first | exact (Below.refl _ _).drew | exact (below1 _ _).drew | exact below_via (Below.refl _ _).drew (below1 _ _) | exact (below_via (below1 _ _) (below1 _ _)).drew | exact below_via (below_via (Below.refl _ _).drew (below1 _ _)) (below1 _ _)) hb;refine hK.out _ _ (HSB.out _ hbw) (fun hHeld => ?_);clear hK Kx
        try simp only [aP, aQ, aA, aB, aC]
        refine wpAnyH_take (i := 6) (oi := ⟨some 47, _, _, _, _, _⟩) (v := ?_) rfl (by kernel_rfl) (by kernel_rfl) (by kernel_rfl) (fun _ _ _ h => h) (Or.inl ⟨by rfl, ?_⟩) (by assumption) ?_
        rotate_left
        ·intro w5 hSw
         (try dsimp only at hSw)
         go_simp
         (try with_reducible rfl)
        try simp only [aP, aQ, aA, aB, aC]
        refine wpAnyH_take (i := 7) (oi := ⟨some 54, _, _, _, _, _⟩) (v := ?_) rfl (by kernel_rfl) (by kernel_rfl) (by kernel_rfl) (fun _ _ _ h => h) (Or.inl ⟨by rfl, ?_⟩) (by assumption) ?_
        rotate_left
        ·intro w5 hSw
         (try dsimp only at hSw)
         go_simp
         (try with_reducible rfl)
        try simp only [aP, aQ, aA, aB, aC]
        refine wpAnyH_take (i := 8) (oi := ⟨some 55, _, _, _, _, _⟩) (v := ?_) rfl (by kernel_rfl) (by kernel_rfl) (by kernel_rfl) (fun _ _ _ h => h) (Or.inl ⟨by rfl, ?_⟩) (by assumption) ?_
        rotate_left
        ·intro w5 hSw
         (try dsimp only at hSw)
         go_simp
         (try with_reducible rfl)
        try simp only [aP, aQ, aA, aB, aC]
        refine wpAnyH_take (i := 9) (oi := ⟨some 56, _, _, _, _, _⟩) (v := ?_) rfl (by kernel_rfl) (by kernel_rfl) (by kernel_rfl) (fun _ _ _ h => h) (Or.inl ⟨by rfl, ?_⟩) (by assumption) ?_
        rotate_left
        ·intro w5 hSw
         (try dsimp only at hSw)
         go_simp
         (try with_reducible rfl)
        try simp only [aP, aQ, aA, aB, aC]
        refine wpAnyH_ready (rs := [10]) (by kernel_rfl) (by simp) ?_;refine (AllReadyH.cons (o := ⟨some 9, _, _, _, _, _⟩) rfl (fun Kx hK => ?_) AllReadyH.nil)
        ·go_simp;refine hK.out _ _ (HSB.out _ (below_via hbw (below1 _ _))) (fun hHeld => ?_);clear hK Kx
         try simp only [aP, aQ, aA, aB, aC]
         have hws : wr.heap.size ≤ w5.heap.size := hbw.size;have hlB : wr.heap.size < (wr.alloc (.cells #[.slice none 0 0, .slice none 0 0, .int .i64 0, .bool false] 46)).drew.heap.size := show wr.heap.size < (wr.alloc (.cells #[.slice none 0 0, .slice none 0 0, .int .i64 0, .bool false] 46)).heap.size by first | (simp; done) | (simp; omega)
         have hlt5 : wr.heap.size < w5.heap.size := Nat.lt_of_lt_of_le hlB hb.size;have hBB : wr.heap.size ≤ (wr.alloc (.cells #[.slice none 0 0, .slice none 0 0, .int .i64 0, .bool false] 46)).drew.heap.size := Nat.le_of_lt hlB;have hq0 : w5.heap[wr.heap.size]? = some (.cells #[.slice none 0 0, .slice none 0 0, .int .i64 0, .bool false] 46 (0, 0)) := blkK (w := (wr.alloc (.cells #[.slice none 0 0, .slice none 0 0, .int .i64 0, .bool false] 46)).drew) (heap_alloc_new wr _) hb;have F := two_p (V := wr) (w5 := w5) #[.int .i64 X'.d.me, .int .i64 X'.d.n, .int .i64 X'.d.b.t, .int .i64 X'.d.b.v, .int .i64 X'.d.b.r, .slice X'.ba X'.d.b.l.length X'.bc, .int .i64 X'.d.ld, .int .i64 X'.d.L.bi, .int .i64 X'.d.L.bt, .slice X'.la X'.d.L.l.length X'.lc, .int .i64 X'.d.L.cm, .string X'.d.tx, .slice X'.na X'.d.nx.length X'.nc, .slice X'.ma X'.d.mt.length X'.mc] #[.slice X'.ra X'.R.length X'.rc, .slice X'.qa X'.M.length X'.qc, .int .i64 X'.ix, .bool X'.wt] #[.int .i64 0, .int .i64 0, .int .i64 0, .int .i64 0, .int .i64 0, .slice none 0 0, .int .i64 0, .int .i64 0, .int .i64 0, .slice none 0 0, .int .i64 0, .string ⟨#[]⟩, .slice none 0 0, .slice none 0 0] hr hq0 hlB hbw (Nat.le_refl _);obtain ⟨f1, f2, f3, f4⟩ := F.out;have HF1 := hideIt f1;have HF2 := hideIt f2;have HF3 := hideIt (f3.base hBB);have HF4 := hideIt f4;have HGP : Hid (((w5.alloc (.cells #[.int .i64 0, .int .i64 0, .int .i64 0, .int .i64 0, .int .i64 0, .slice none 0 0, .int .i64 0, .int .i64 0, .int .i64 0, .slice none 0 0, .int .i64 0, .string ⟨#[]⟩, .slice none 0 0, .slice none 0 0] 38))).heap[w5.heap.size]? = some (.cells #[.int .i64 0, .int .i64 0, .int .i64 0, .int .i64 0, .int .i64 0, .slice none 0 0, .int .i64 0, .int .i64 0, .int .i64 0, .slice none 0 0, .int .i64 0, .string ⟨#[]⟩, .slice none 0 0, .slice none 0 0] 38 (0, 0))) := hideIt (heap_alloc_new w5 _);have HGQ : Hid ((((w5.alloc (.cells #[.int .i64 0, .int .i64 0, .int .i64 0, .int .i64 0, .int .i64 0, .slice none 0 0, .int .i64 0, .int .i64 0, .int .i64 0, .slice none 0 0, .int .i64 0, .string ⟨#[]⟩, .slice none 0 0, .slice none 0 0] 38))).setRow (w5.heap.size) #[.int .i64 X'.d.me, .int .i64 X'.d.n, .int .i64 X'.d.b.t, .int .i64 X'.d.b.v, .int .i64 X'.d.b.r, .slice X'.ba X'.d.b.l.length X'.bc, .int .i64 X'.d.ld, .int .i64 X'.d.L.bi, .int .i64 X'.d.L.bt, .slice X'.la X'.d.L.l.length X'.lc, .int .i64 X'.d.L.cm, .string X'.d.tx, .slice X'.na X'.d.nx.length X'.nc, .slice X'.ma X'.d.mt.length X'.mc]).heap[wr.heap.size]? = some (.cells #[.slice none 0 0, .slice none 0 0, .int .i64 0, .bool false] 46 (0, 0))) := hideIt ((setRow_other _ _ _ _ (by omega)).trans (blkK hq0 (below1 _ _)));have HBW : Hid (Below wr.heap.size wr (((w5.alloc (.cells #[.int .i64 0, .int .i64 0, .int .i64 0, .int .i64 0, .int .i64 0, .slice none 0 0, .int .i64 0, .int .i64 0, .int .i64 0, .slice none 0 0, .int .i64 0, .string ⟨#[]⟩, .slice none 0 0, .slice none 0 0] 38))).setRow (w5.heap.size) #[.int .i64 X'.d.me, .int .i64 X'.d.n, .int .i64 X'.d.b.t, .int .i64 X'.d.b.v, .int .i64 X'.d.b.r, .slice X'.ba X'.d.b.l.length X'.bc, .int .i64 X'.d.ld, .int .i64 X'.d.L.bi, .int .i64 X'.d.L.bt, .slice X'.la X'.d.L.l.length X'.lc, .int .i64 X'.d.L.cm, .string X'.d.tx, .slice X'.na X'.d.nx.length X'.nc, .slice X'.ma X'.d.mt.length X'.mc])) := hideIt (below_out (below_via hbw (below1 _ _)) (setRow_out _ (w5.heap.size) _) (fun k e => by omega));clear F f1 f2 f3 f4 hHeld;refine wpAnyH_ready (rs := [12]) (by kernel_rfl) (by simp) ?_;refine AllReadyH.cons (o := ⟨none, _, _, _, _, _⟩) rfl (fun Kx hK => ?_) AllReadyH.nil;refine step_store_rowK rfl 38 _ _ rfl (w5.heap.size) #[.int .i64 X'.d.me, .int .i64 X'.d.n, .int .i64 X'.d.b.t, .int .i64 X'.d.b.v, .int .i64 X'.d.b.r, .slice X'.ba X'.d.b.l.length X'.bc, .int .i64 X'.d.ld, .int .i64 X'.d.L.bi, .int .i64 X'.d.L.bt, .slice X'.la X'.d.L.l.length X'.lc, .int .i64 X'.d.L.cm, .string X'.d.tx, .slice X'.na X'.d.nx.length X'.nc, .slice X'.ma X'.d.mt.length X'.mc] rfl rfl 38 _ HGP.out (by kernel_rfl) (by rfl) (by simp [Value.oneCell']) ?_;refine hK.out _ _ (HSB.out _ HBW.out) (fun hHeld => ?_);clear hK Kx
         try simp only [aP, aQ, aA, aB, aC]
         refine wpAnyH_ready (rs := [13]) (by kernel_rfl) (by simp) ?_;refine AllReadyH.cons (o := ⟨none, _, _, _, _, _⟩) rfl (fun Kx hK => ?_) AllReadyH.nil;refine step_store_rowK rfl 46 _ _ rfl (wr.heap.size) #[.slice X'.ra X'.R.length X'.rc, .slice X'.qa X'.M.length X'.qc, .int .i64 X'.ix, .bool X'.wt] rfl rfl 46 _ HGQ.out (by kernel_rfl) (by rfl) (by simp [Value.oneCell']) ?_;refine hK.out _ _ (HSB.out _ HF4.out) (fun hHeld => ?_);clear hK Kx
         try simp only [aP, aQ, aA, aB, aC]
         refine wpAnyH_take (i := 14) (oi := ⟨some 11, _, _, _, _, _⟩) (v := ?_) rfl (by kernel_rfl) (by kernel_rfl) (by kernel_rfl) (fun _ _ _ h => h) (Or.inl ⟨by rfl, ?_⟩) (by assumption) ?_
         rotate_left
         ·intro w5 hSw
          (try dsimp only at hSw)
          go_simp
          (try with_reducible rfl)
         try simp only [aP, aQ, aA, aB, aC]
         refine wpAnyH_done (by kernel_rfl) ?_ _;clear hHeld
         go_wp2_with fail
         go_meet
         exact ⟨_, _, X', rfl, rfl, rfl, hideIt ⟨HF1.out, HF2.out, hv, HF3.out, HF4.out⟩⟩
       ·go_simp;refine hK.out _ _ (HSB.out _ (by first | exact (Below.refl _ _).drew | exact (below1 _ _).drew | exact below_via (Below.refl _ _).drew (below1 _ _) | exact (below_via (below1 _ _) (below1 _ _)).drew | exact below_via (below_via (Below.refl _ _).drew (below1 _ _)) (below1 _ _))) (fun hHeld => ?_);clear hK Kx
        try simp only [aP, aQ, aA, aB, aC]
        refine wpAnyH_ready (rs := [5]) (by kernel_rfl) (by simp) ?_;refine (AllReadyH.cons (o := ⟨some 53, _, _, _, _, _⟩) rfl (fun Kx hK => ?_) AllReadyH.nil)
        ·go_simp
         go_at_call 11
         refine (HCL.out _ (by first | exact (Below.refl _ _).drew | exact (below1 _ _).drew | exact below_via (Below.refl _ _).drew (below1 _ _) | exact (below_via (below1 _ _) (below1 _ _)).drew | exact below_via (below_via (Below.refl _ _).drew (below1 _ _)) (below1 _ _))).mono ?_;rintro r w5 ⟨X', rfl, hv, hr, hb⟩;have hbw : Below wr.heap.size wr w5 := below_via (by first | exact (Below.refl _ _).drew | exact (below1 _ _).drew | exact below_via (Below.refl _ _).drew (below1 _ _) | exact (below_via (below1 _ _) (below1 _ _)).drew | exact below_via (below_via (Below.refl _ _).drew (below1 _ _)) (below1 _ _)) hb;refine hK.out _ _ (HSB.out _ hbw) (fun hHeld => ?_);clear hK Kx
         try simp only [aP, aQ, aA, aB, aC]
         refine wpAnyH_take (i := 6) (oi := ⟨some 47, _, _, _, _, _⟩) (v := ?_) rfl (by kernel_rfl) (by kernel_rfl) (by kernel_rfl) (fun _ _ _ h => h) (Or.inl ⟨by rfl, ?_⟩) (by assumption) ?_
         rotate_left
         ·intro w5 hSw
          (try dsimp only at hSw)
          go_simp
          (try with_reducible rfl)
         try simp only [aP, aQ, aA, aB, aC]
         refine wpAnyH_take (i := 7) (oi := ⟨some 54, _, _, _, _, _⟩) (v := ?_) rfl (by kernel_rfl) (by kernel_rfl) (by kernel_rfl) (fun _ _ _ h => h) (Or.inl ⟨by rfl, ?_⟩) (by assumption) ?_
         rotate_left
         ·intro w5 hSw
          (try dsimp only at hSw)
          go_simp
          (try with_reducible rfl)
         try simp only [aP, aQ, aA, aB, aC]
         refine wpAnyH_take (i := 8) (oi := ⟨some 55, _, _, _, _, _⟩) (v := ?_) rfl (by kernel_rfl) (by kernel_rfl) (by kernel_rfl) (fun _ _ _ h => h) (Or.inl ⟨by rfl, ?_⟩) (by assumption) ?_
         rotate_left
         ·intro w5 hSw
          (try dsimp only at hSw)
          go_simp
          (try with_reducible rfl)
         try simp only [aP, aQ, aA, aB, aC]
         refine wpAnyH_take (i := 9) (oi := ⟨some 56, _, _, _, _, _⟩) (v := ?_) rfl (by kernel_rfl) (by kernel_rfl) (by kernel_rfl) (fun _ _ _ h => h) (Or.inl ⟨by rfl, ?_⟩) (by assumption) ?_
         rotate_left
         ·intro w5 hSw
          (try dsimp only at hSw)
          go_simp
          (try with_reducible rfl)
         try simp only [aP, aQ, aA, aB, aC]
         have hws : wr.heap.size ≤ w5.heap.size := hbw.size;have hlB : wr.heap.size < ((wr.alloc (.cells #[.slice none 0 0, .slice none 0 0, .int .i64 0, .bool false] 46)).alloc (.cells #[.int .i64 0, .int .i64 0, .int .i64 0, .int .i64 0, .int .i64 0, .slice none 0 0, .int .i64 0, .int .i64 0, .int .i64 0, .slice none 0 0, .int .i64 0, .string ⟨#[]⟩, .slice none 0 0, .slice none 0 0] 38)).drew.heap.size := show wr.heap.size < ((wr.alloc (.cells #[.slice none 0 0, .slice none 0 0, .int .i64 0, .bool false] 46)).alloc (.cells #[.int .i64 0, .int .i64 0, .int .i64 0, .int .i64 0, .int .i64 0, .slice none 0 0, .int .i64 0, .int .i64 0, .int .i64 0, .slice none 0 0, .int .i64 0, .string ⟨#[]⟩, .slice none 0 0, .slice none 0 0] 38)).heap.size by first | (simp; done) | (simp; omega)
         have hlt5 : wr.heap.size < w5.heap.size := Nat.lt_of_lt_of_le hlB hb.size;have hlB1 : wr.heap.size + 1 < ((wr.alloc (.cells #[.slice none 0 0, .slice none 0 0, .int .i64 0, .bool false] 46)).alloc (.cells #[.int .i64 0, .int .i64 0, .int .i64 0, .int .i64 0, .int .i64 0, .slice none 0 0, .int .i64 0, .int .i64 0, .int .i64 0, .slice none 0 0, .int .i64 0, .string ⟨#[]⟩, .slice none 0 0, .slice none 0 0] 38)).drew.heap.size := show wr.heap.size + 1 < ((wr.alloc (.cells #[.slice none 0 0, .slice none 0 0, .int .i64 0, .bool false] 46)).alloc (.cells #[.int .i64 0, .int .i64 0, .int .i64 0, .int .i64 0, .int .i64 0, .slice none 0 0, .int .i64 0, .int .i64 0, .int .i64 0, .slice none 0 0, .int .i64 0, .string ⟨#[]⟩, .slice none 0 0, .slice none 0 0] 38)).heap.size by first | (simp; done) | (simp; omega)
         have hBB : wr.heap.size ≤ ((wr.alloc (.cells #[.slice none 0 0, .slice none 0 0, .int .i64 0, .bool false] 46)).alloc (.cells #[.int .i64 0, .int .i64 0, .int .i64 0, .int .i64 0, .int .i64 0, .slice none 0 0, .int .i64 0, .int .i64 0, .int .i64 0, .slice none 0 0, .int .i64 0, .string ⟨#[]⟩, .slice none 0 0, .slice none 0 0] 38)).drew.heap.size := Nat.le_of_lt hlB;have hq0 : w5.heap[wr.heap.size]? = some (.cells #[.slice none 0 0, .slice none 0 0, .int .i64 0, .bool false] 46 (0, 0)) := blkK (w := ((wr.alloc (.cells #[.slice none 0 0, .slice none 0 0, .int .i64 0, .bool false] 46)).alloc (.cells #[.int .i64 0, .int .i64 0, .int .i64 0, .int .i64 0, .int .i64 0, .slice none 0 0, .int .i64 0, .int .i64 0, .int .i64 0, .slice none 0 0, .int .i64 0, .string ⟨#[]⟩, .slice none 0 0, .slice none 0 0] 38)).drew) (blkK (heap_alloc_new wr _) (below1 _ _).drew) hb;have hp0 : w5.heap[wr.heap.size + 1]? = some (.cells #[.int .i64 0, .int .i64 0, .int .i64 0, .int .i64 0, .int .i64 0, .slice none 0 0, .int .i64 0, .int .i64 0, .int .i64 0, .slice none 0 0, .int .i64 0, .string ⟨#[]⟩, .slice none 0 0, .slice none 0 0] 38 (0, 0)) := blkK (w := ((wr.alloc (.cells #[.slice none 0 0, .slice none 0 0, .int .i64 0, .bool false] 46)).alloc (.cells #[.int .i64 0, .int .i64 0, .int .i64 0, .int .i64 0, .int .i64 0, .slice none 0 0, .int .i64 0, .int .i64 0, .int .i64 0, .slice none 0 0, .int .i64 0, .string ⟨#[]⟩, .slice none 0 0, .slice none 0 0] 38)).drew) (alloc2_new _ _ _ _) hb;have F := two_old (V := wr) (w5 := w5) #[.int .i64 X'.d.me, .int .i64 X'.d.n, .int .i64 X'.d.b.t, .int .i64 X'.d.b.v, .int .i64 X'.d.b.r, .slice X'.ba X'.d.b.l.length X'.bc, .int .i64 X'.d.ld, .int .i64 X'.d.L.bi, .int .i64 X'.d.L.bt, .slice X'.la X'.d.L.l.length X'.lc, .int .i64 X'.d.L.cm, .string X'.d.tx, .slice X'.na X'.d.nx.length X'.nc, .slice X'.ma X'.d.mt.length X'.mc] #[.slice X'.ra X'.R.length X'.rc, .slice X'.qa X'.M.length X'.qc, .int .i64 X'.ix, .bool X'.wt] hr hp0 hq0 (by omega) hlB1 hlB hbw (Nat.le_succ _) (Nat.le_refl _);obtain ⟨f1, f2, f3, f4⟩ := F.out;have HF1 := hideIt f1;have HF2 := hideIt f2;have HF3 := hideIt (f3.base hBB);have HF4 := hideIt f4;have HGP : Hid ((w5).heap[wr.heap.size + 1]? = some (.cells #[.int .i64 0, .int .i64 0, .int .i64 0, .int .i64 0, .int .i64 0, .slice none 0 0, .int .i64 0, .int .i64 0, .int .i64 0, .slice none 0 0, .int .i64 0, .string ⟨#[]⟩, .slice none 0 0, .slice none 0 0] 38 (0, 0))) := hideIt (hp0);have HGQ : Hid (((w5).setRow (wr.heap.size + 1) #[.int .i64 X'.d.me, .int .i64 X'.d.n, .int .i64 X'.d.b.t, .int .i64 X'.d.b.v, .int .i64 X'.d.b.r, .slice X'.ba X'.d.b.l.length X'.bc, .int .i64 X'.d.ld, .int .i64 X'.d.L.bi, .int .i64 X'.d.L.bt, .slice X'.la X'.d.L.l.length X'.lc, .int .i64 X'.d.L.cm, .string X'.d.tx, .slice X'.na X'.d.nx.length X'.nc, .slice X'.ma X'.d.mt.length X'.mc]).heap[wr.heap.size]? = some (.cells #[.slice none 0 0, .slice none 0 0, .int .i64 0, .bool false] 46 (0, 0))) := hideIt ((setRow_other _ _ _ _ (by omega)).trans (hq0));have HBW : Hid (Below wr.heap.size wr ((w5).setRow (wr.heap.size + 1) #[.int .i64 X'.d.me, .int .i64 X'.d.n, .int .i64 X'.d.b.t, .int .i64 X'.d.b.v, .int .i64 X'.d.b.r, .slice X'.ba X'.d.b.l.length X'.bc, .int .i64 X'.d.ld, .int .i64 X'.d.L.bi, .int .i64 X'.d.L.bt, .slice X'.la X'.d.L.l.length X'.lc, .int .i64 X'.d.L.cm, .string X'.d.tx, .slice X'.na X'.d.nx.length X'.nc, .slice X'.ma X'.d.mt.length X'.mc])) := hideIt (below_out (hbw) (setRow_out _ (wr.heap.size + 1) _) (fun k e => by omega));clear F f1 f2 f3 f4 hHeld;refine wpAnyH_ready (rs := [12]) (by kernel_rfl) (by simp) ?_;refine AllReadyH.cons (o := ⟨none, _, _, _, _, _⟩) rfl (fun Kx hK => ?_) AllReadyH.nil;refine step_store_rowK rfl 38 _ _ rfl (wr.heap.size + 1) #[.int .i64 X'.d.me, .int .i64 X'.d.n, .int .i64 X'.d.b.t, .int .i64 X'.d.b.v, .int .i64 X'.d.b.r, .slice X'.ba X'.d.b.l.length X'.bc, .int .i64 X'.d.ld, .int .i64 X'.d.L.bi, .int .i64 X'.d.L.bt, .slice X'.la X'.d.L.l.length X'.lc, .int .i64 X'.d.L.cm, .string X'.d.tx, .slice X'.na X'.d.nx.length X'.nc, .slice X'.ma X'.d.mt.length X'.mc] rfl rfl 38 _ HGP.out (by kernel_rfl) (by rfl) (by simp [Value.oneCell']) ?_;refine hK.out _ _ (HSB.out _ HBW.out) (fun hHeld => ?_);clear hK Kx
         try simp only [aP, aQ, aA, aB, aC]
         refine wpAnyH_ready (rs := [13]) (by kernel_rfl) (by simp) ?_;refine AllReadyH.cons (o := ⟨none, _, _, _, _, _⟩) rfl (fun Kx hK => ?_) AllReadyH.nil;refine step_store_rowK rfl 46 _ _ rfl (wr.heap.size) #[.slice X'.ra X'.R.length X'.rc, .slice X'.qa X'.M.length X'.qc, .int .i64 X'.ix, .bool X'.wt] rfl rfl 46 _ HGQ.out (by kernel_rfl) (by rfl) (by simp [Value.oneCell']) ?_;refine hK.out _ _ (HSB.out _ HF4.out) (fun hHeld => ?_);clear hK Kx
         try simp only [aP, aQ, aA, aB, aC]
         refine wpAnyH_take (i := 14) (oi := ⟨some 11, _, _, _, _, _⟩) (v := ?_) rfl (by kernel_rfl) (by kernel_rfl) (by kernel_rfl) (fun _ _ _ h => h) (Or.inl ⟨by rfl, ?_⟩) (by assumption) ?_
         rotate_left
         ·intro w5 hSw
          (try dsimp only at hSw)
          go_simp
          (try with_reducible rfl)
         try simp only [aP, aQ, aA, aB, aC]
         refine wpAnyH_done (by kernel_rfl) ?_ _;clear hHeld
         go_wp2_with fail
         go_meet
         exact ⟨_, _, X', rfl, rfl, rfl, hideIt ⟨HF1.out, HF2.out, hv, HF3.out, HF4.out⟩⟩
     case rest =>
      obtain ⟨p, q, X', rfl, rfl, rfl, HC⟩ := hcut;clear HCL
      by_cases hs : (stepN d x.e).2 = 0
      ·obtain ⟨hfw, hI2⟩ := step_go HHI.out hs;obtain ⟨c1, c2, c3, c4, c5⟩ := HC.out;have hD : (stepN d x.e).1.d = X'.d := by rw [← c3]; rfl
       rw [hD] at hfw hI2;have HFW := hideIt hfw;have HI2 := hideIt hI2;have HP1 := hideIt c1;have HQ1 := hideIt c2;have HV1 := hideIt c3;have HR1 := hideIt c4;have HB5 := hideIt c5;have HME : Hid (X'.d.me = me ∧ X'.d.n = n) := hideIt ⟨hfw.me.trans HMN.out.1, hfw.n.trans HMN.out.2⟩;have HBZ := hideIt (blkK HBX.out c5);have HNZ := hideIt (HSB.out _ c5).1;have hwz : wr.heap.size ≤ wc.heap.size := c5.size;have hkp := step_keeps HHI.out hs;rw [hD, ← c3] at hkp;have HKP : Hid (runK (kpt d d.b.t d.b.v) (X'.R.map RecX.r) = some (kpt X'.d X'.d.b.t X'.d.b.v)) := hideIt hkp;have hmy := mayB_in (nodeB_L HHI.out.1).1;have HIN0 : Hid (0 ≤ (kpt d d.b.t d.b.v).si ∧ (kpt d d.b.t d.b.v).si ≤ 1000000 ∧ (kpt d d.b.t d.b.v).l.length ≤ 400) := hideIt (by
        obtain ⟨⟨u1, u2⟩, -, u6, -, u3, u4, u5⟩ := hmy
        exact ⟨u1, u2, by first | exact u6 | (show d.L.l.length ≤ 400; omega)⟩)
       have hKl : K < wr.heap.size := (Array.getElem?_eq_some_iff.1 HKB.out.box).1;have HK1 : Hid (KI w N K p q wr.heap.size X' #[.int .i64 d.me, .int .i64 d.n, .int .i64 d.b.t, .int .i64 d.b.v, .int .i64 d.b.r, gb, .int .i64 d.ld, .int .i64 d.L.bi, .int .i64 d.L.bt, gl, .int .i64 d.L.cm, .string d.tx, gn, gm] #[.int .i64 me, .int .i64 n, .int .i64 t0, .int .i64 v, .int .i64 si, .int .i64 st, .string tx, .slice lo l.length lc0] (kpt d d.b.t d.b.v) ka kc wc) := hideIt ⟨c1, c2, HNZ.out, HBZ.out, c4, below_via HHB.out c5, HKB.out.keep c5, hKl⟩;clear c1 c2 c3 c4 c5 HC hfw hI2 hD hkp hmy HP1 HQ1 HV1 HR1 HB5 HBZ HNZ HSB;rw [hs];generalize kpt d d.b.t d.b.v = v0 at *;generalize hB0 : wr.heap.size = B0 at *
       go_upto_region 10 with fail
       go_wp2_with fail
       go_loopw [12] (fun kv wz => ∃ (j : Nat) (vk : KptV) (a : Option Addr) (c : Nat), j ≤ X'.R.length ∧ kv = .int .i64 (j : Int) ∧ Hid (KI w N K p q B0 X' #[.int .i64 d.me, .int .i64 d.n, .int .i64 d.b.t, .int .i64 d.b.v, .int .i64 d.b.r, gb, .int .i64 d.ld, .int .i64 d.L.bi, .int .i64 d.L.bt, gl, .int .i64 d.L.cm, .string d.tx, gn, gm] #[.int .i64 me, .int .i64 n, .int .i64 t0, .int .i64 v, .int .i64 si, .int .i64 st, .string tx, .slice lo l.length lc0] vk a c wz) ∧ Hid (runK vk ((X'.R.map RecX.r).drop j) = some (kpt X'.d X'.d.b.t X'.d.b.v)) ∧ Hid (0 ≤ vk.si ∧ vk.si ≤ 1000000 ∧ vk.l.length ≤ 400)) (fun kv _ => X'.R.length - (intOf kv).toNat)
       case atStart => exact ⟨0, v0, ka, kc, Nat.zero_le _, by go_num, HK1, HKP, HIN0⟩
       case round =>
        clear HKB HK1 HKP HIN0;obtain ⟨j, vk, ka, kc, hj, rfl, HZ, HRN, HVI⟩ := hrel;have hj0 : (0 : Int) ≤ (j : Int) := by omega
        by_cases hlm : j < X'.R.length
        ·have hlm' : (j : Int) < (X'.R.length : Int) := by omega
         have hd4 : decide ((j : Int) < (X'.R.length : Int)) = true := decide_eq_true hlm';have hwj : IntKind.i64.wrap ((j : Int) + 1) = (j : Int) + 1 := by
          have := HZ.out.rows.sr;rw [IntKind.wrap_i64];omega
         obtain ⟨b1, o1', hqa, hb1', -⟩ := HZ.out.rows.rec_at hlm;have heo := (HZ.out.rows.ro X'.R[j] (List.getElem_mem hlm)).got;have hrn := HRN.out;rw [List.drop_eq_getElem_cons (by simpa using hlm), List.getElem_map] at hrn;obtain ⟨y, hy⟩ : ∃ y, X'.R[j] = y := ⟨_, rfl⟩;rw [hy] at heo hrn;obtain ⟨⟨kd, rt, rv, at_, es, ri, rs, rx⟩, xa, xc⟩ := y;dsimp only at heo hrn;unfold runK at hrn
         split at hrn
         ·rename_i hfit
          have HES := hideIt heo;have HFT := hideIt hfit;have HRN2 := hideIt hrn;clear heo hfit hrn HRN hb1';obtain ⟨⟨k0, k1, k2, k3, k4, k5⟩, kf, kz⟩ := at6 HZ.out.kb.box;obtain ⟨⟨o0, o1, o2, o3⟩, of, oz⟩ := at4 HZ.out.hq;rw [hqa] at o0;obtain ⟨bX, oX, hqX, hb1, hrow⟩ := HZ.out.rows.rec_at hlm;rw [hqa] at hqX;simp only [Option.some.injEq, Addr.mk.injEq, and_true] at hqX;obtain ⟨rfl, rfl⟩ := hqX;rw [hy] at hrow;have y0 := hrow 0 (by omega);have y1 := hrow 1 (by omega);have y2 := hrow 2 (by omega);have y3 := hrow 3 (by omega);have y4 := hrow 4 (by omega);have y5 := hrow 5 (by omega);have y6 := hrow 6 (by omega);have y7 := hrow 7 (by omega);simp only [recE, Nat.add_zero, List.getElem?_cons_zero, List.getElem?_cons_succ] at y0 y1 y2 y3 y4 y5 y6 y7;clear hrow;have HFI : Hid (∀ W, Below wr.heap.size wr W → Calls Tryz.prog 15 #[.agg #[.int .i64 vk.ht, .int .i64 vk.hv, .int .i64 vk.si, .int .i64 vk.st, .string vk.tx, .slice ka vk.l.length kc], .agg #[.int .i64 kd, .int .i64 rt, .int .i64 rv, .int .i64 at_, .slice xa es.length xc, .int .i64 ri, .int .i64 rs, .string rx]] W fun e w' => e = .returned (.bool true) ∧ Hid (Below wr.heap.size wr w') ∧ (w'.cell? ⟨K, 0, none⟩ = some (.int .i64 vk.ht) ∧ w'.cell? ⟨K, 1, none⟩ = some (.int .i64 vk.hv) ∧ w'.cell? ⟨K, 2, none⟩ = some (.int .i64 vk.si) ∧ w'.cell? ⟨K, 3, none⟩ = some (.int .i64 vk.st) ∧ w'.cell? ⟨K, 4, none⟩ = some (.string vk.tx) ∧ w'.cell? ⟨K, 5, none⟩ = some (.slice ka vk.l.length kc) ∧ w'.cell? ⟨q, 0, none⟩ = some (.slice (some ⟨b1, o1', none⟩) X'.R.length X'.rc) ∧ w'.cell? ⟨b1, o1' + j * 8, none⟩ = some (.int .i64 kd) ∧ w'.cell? ⟨b1, o1' + j * 8 + 1, none⟩ = some (.int .i64 rt) ∧ w'.cell? ⟨b1, o1' + j * 8 + 2, none⟩ = some (.int .i64 rv) ∧ w'.cell? ⟨b1, o1' + j * 8 + 3, none⟩ = some (.int .i64 at_) ∧ w'.cell? ⟨b1, o1' + j * 8 + 4, none⟩ = some (.slice xa es.length xc) ∧ w'.cell? ⟨b1, o1' + j * 8 + 5, none⟩ = some (.int .i64 ri) ∧ w'.cell? ⟨b1, o1' + j * 8 + 6, none⟩ = some (.int .i64 rs) ∧ w'.cell? ⟨b1, o1' + j * 8 + 7, none⟩ = some (.string rx))) := hideIt (by
           intro W hW;refine (fits_is vk (.slice ka vk.l.length kc) ⟨⟨kd, rt, rv, at_, es, ri, rs, rx⟩, xa, xc⟩ W (HZ.out.kb.got.keep hW) (HES.out.keep hW) HVI.out HFT.out).mono ?_;rintro e w' ⟨rfl, hbl⟩;have hb2 := below_via hW hbl;have HZ2 := hideIt (HZ.out.keep hb2);clear k0 k1 k2 k3 k4 k5 kf kz o0 o1 o2 o3 of oz y0 y1 y2 y3 y4 y5 y6 y7 hb1;obtain ⟨⟨k0, k1, k2, k3, k4, k5⟩, kf, kz⟩ := at6 HZ2.out.kb.box;obtain ⟨⟨o0, o1, o2, o3⟩, of, oz⟩ := at4 HZ2.out.hq;rw [hqa] at o0;obtain ⟨bX, oX, hqX, hb1, hrow⟩ := HZ2.out.rows.rec_at hlm;rw [hqa] at hqX;simp only [Option.some.injEq, Addr.mk.injEq, and_true] at hqX;obtain ⟨rfl, rfl⟩ := hqX;rw [hy] at hrow;have y0 := hrow 0 (by omega);have y1 := hrow 1 (by omega);have y2 := hrow 2 (by omega);have y3 := hrow 3 (by omega);have y4 := hrow 4 (by omega);have y5 := hrow 5 (by omega);have y6 := hrow 6 (by omega);have y7 := hrow 7 (by omega);simp only [recE, Nat.add_zero, List.getElem?_cons_zero, List.getElem?_cons_succ] at y0 y1 y2 y3 y4 y5 y6 y7;clear hrow
           exact ⟨rfl, hideIt hb2, k0, k1, k2, k3, k4, k5, o0, y0, y1, y2, y3, y4, y5, y6, y7⟩)
          go_upto_region 13 with fail
          go_cut [73] from 66 to 73 (fun x wy => x = .bool false ∧ Hid (Below wr.heap.size wr wy))
          case first =>
           go_region_held3 (fun W => W.cell? ⟨K, 0, none⟩ = some (.int .i64 vk.ht) ∧ W.cell? ⟨K, 1, none⟩ = some (.int .i64 vk.hv) ∧ W.cell? ⟨K, 2, none⟩ = some (.int .i64 vk.si) ∧ W.cell? ⟨K, 3, none⟩ = some (.int .i64 vk.st) ∧ W.cell? ⟨K, 4, none⟩ = some (.string vk.tx) ∧ W.cell? ⟨K, 5, none⟩ = some (.slice ka vk.l.length kc) ∧ W.cell? ⟨q, 0, none⟩ = some (.slice (some ⟨b1, o1', none⟩) X'.R.length X'.rc) ∧ W.cell? ⟨b1, o1' + j * 8, none⟩ = some (.int .i64 kd) ∧ W.cell? ⟨b1, o1' + j * 8 + 1, none⟩ = some (.int .i64 rt) ∧ W.cell? ⟨b1, o1' + j * 8 + 2, none⟩ = some (.int .i64 rv) ∧ W.cell? ⟨b1, o1' + j * 8 + 3, none⟩ = some (.int .i64 at_) ∧ W.cell? ⟨b1, o1' + j * 8 + 4, none⟩ = some (.slice xa es.length xc) ∧ W.cell? ⟨b1, o1' + j * 8 + 5, none⟩ = some (.int .i64 ri) ∧ W.cell? ⟨b1, o1' + j * 8 + 6, none⟩ = some (.int .i64 rs) ∧ W.cell? ⟨b1, o1' + j * 8 + 7, none⟩ = some (.string rx)) (go_keep) (first | (go_at_call 15; refine (HFI.out _ (by first | exact (Below.refl _ _).drew | exact Below.refl _ _)).mono ?_; rintro r w5 ⟨rfl, HB5, ⟨i0, i1, i2, i3, i4, i5, i6, i7, i8, i9, i10, i11, i12, i13, i14⟩⟩))
           all_goals go_wp2_with fail
           all_goals go_meet
           all_goals exact ⟨rfl, HB5⟩
          case rest =>
           obtain ⟨rfl, HB5⟩ := hcut;have HZ5 := hideIt (HZ.out.keep HB5.out);have HES5 := hideIt (HES.out.keep HB5.out);clear k0 k1 k2 k3 k4 k5 kf kz o0 o1 o2 o3 of oz y0 y1 y2 y3 y4 y5 y6 y7 hb1;clear HFI HZ HES HB5;obtain ⟨⟨k0, k1, k2, k3, k4, k5⟩, kf, kz⟩ := at6 HZ5.out.kb.box;obtain ⟨⟨o0, o1, o2, o3⟩, of, oz⟩ := at4 HZ5.out.hq;rw [hqa] at o0;obtain ⟨bX, oX, hqX, hb1, hrow⟩ := HZ5.out.rows.rec_at hlm;rw [hqa] at hqX;simp only [Option.some.injEq, Addr.mk.injEq, and_true] at hqX;obtain ⟨rfl, rfl⟩ := hqX;rw [hy] at hrow;have y0 := hrow 0 (by omega);have y1 := hrow 1 (by omega);have y2 := hrow 2 (by omega);have y3 := hrow 3 (by omega);have y4 := hrow 4 (by omega);have y5 := hrow 5 (by omega);have y6 := hrow 6 (by omega);have y7 := hrow 7 (by omega);simp only [recE, Nat.add_zero, List.getElem?_cons_zero, List.getElem?_cons_succ] at y0 y1 y2 y3 y4 y5 y6 y7;clear hrow;have HIN2 := hideIt (fold_in HVI.out HFT.out);have HFO : Hid (∀ W, Below wc.heap.size wc W → Calls Tryz.prog 16 #[.agg #[.int .i64 vk.ht, .int .i64 vk.hv, .int .i64 vk.si, .int .i64 vk.st, .string vk.tx, .slice ka vk.l.length kc], .agg #[.int .i64 kd, .int .i64 rt, .int .i64 rv, .int .i64 at_, .slice xa es.length xc, .int .i64 ri, .int .i64 rs, .string rx]] W fun e w' => ∃ a c, e = .returned (.agg #[.int .i64 (foldK vk ⟨kd, rt, rv, at_, es, ri, rs, rx⟩).ht, .int .i64 (foldK vk ⟨kd, rt, rv, at_, es, ri, rs, rx⟩).hv, .int .i64 (foldK vk ⟨kd, rt, rv, at_, es, ri, rs, rx⟩).si, .int .i64 (foldK vk ⟨kd, rt, rv, at_, es, ri, rs, rx⟩).st, .string (foldK vk ⟨kd, rt, rv, at_, es, ri, rs, rx⟩).tx, .slice a (foldK vk ⟨kd, rt, rv, at_, es, ri, rs, rx⟩).l.length c]) ∧ Hid (w'.ownsRow wc.heap.size 55 3 (.slice a (foldK vk ⟨kd, rt, rv, at_, es, ri, rs, rx⟩).l.length c) (foldK vk ⟨kd, rt, rv, at_, es, ri, rs, rx⟩).l.length (entC (foldK vk ⟨kd, rt, rv, at_, es, ri, rs, rx⟩).l) ∧ Below wc.heap.size wc w') ∧ ((w'.cell? ⟨K, 0, none⟩ = some (.int .i64 vk.ht) ∧ w'.cell? ⟨K, 1, none⟩ = some (.int .i64 vk.hv) ∧ w'.cell? ⟨K, 2, none⟩ = some (.int .i64 vk.si) ∧ w'.cell? ⟨K, 3, none⟩ = some (.int .i64 vk.st) ∧ w'.cell? ⟨K, 4, none⟩ = some (.string vk.tx) ∧ w'.cell? ⟨K, 5, none⟩ = some (.slice ka vk.l.length kc)) ∧ (∀ j, w'.frozen? ⟨K, j, none⟩ = false) ∧ K < w'.heap.size)) := hideIt (by
            intro W hW;refine (fold_is vk (.slice ka vk.l.length kc) ⟨⟨kd, rt, rv, at_, es, ri, rs, rx⟩, xa, xc⟩ W (HZ5.out.kb.got.keep hW) (HES5.out.keep hW) HVI.out HFT.out).mono ?_;rintro e w' ⟨a, c, rfl, ho, hbl⟩;have hb2 := below_via hW hbl
            exact ⟨a, c, rfl, hideIt ⟨own_base ho hW.size, hb2⟩, at6 (HZ5.out.keep hb2).kb.box⟩)
           try dsimp only at HIN2 HRN2
           generalize foldK vk ⟨kd, rt, rv, at_, es, ri, rs, rx⟩ = un at *;have hKz := HZ5.out.size
           go_upto_region 15 with fail
           go_region_with (first | (go_at_call 16; refine (HFO.out _ (by first | exact (Below.refl _ _).drew | exact Below.refl _ _)).mono ?_; rintro r w5 ⟨a, c, rfl, HQ, ⟨i0, i1, i2, i3, i4, i5⟩, fz, i6⟩))
           all_goals go_wp2
           all_goals go_roundw
           all_goals first
            | exact ⟨j + 1, un, a, c, by omega, by go_num, by (have hk5 := HZ5.out.keep HQ.out.2; rw [row6 _ _ _ _ _ _ hk5.kb.box]; exact hideIt (hk5.put HQ.out.1 hKz HIN2.out.2.2)), HRN2, HIN2⟩
            | (simp [intOf]; omega)
         ·cases hrn
        ·have hd4 : decide ((j : Int) < (X'.R.length : Int)) = false := decide_eq_false (by omega);have hrn := HRN.out;rw [List.drop_eq_nil_of_le (by simp; omega)] at hrn
         simp only [runK, Option.some.injEq] at hrn;subst hrn;obtain ⟨⟨m0, m1, m2, m3, m4, m5, m6, m7, m8, m9, m10, m11, m12, m13⟩, mf, mz⟩ := at14 HZ.out.hp;obtain ⟨⟨k0, k1, k2, k3, k4, k5⟩, kf, kz⟩ := at6 HZ.out.kb.box;obtain ⟨⟨o0, o1, o2, o3⟩, of, oz⟩ := at4 HZ.out.hq;have HSM := hideIt (sameEnts_is (.slice ka X'.d.L.l.length kc) X'.gl X'.d.L.l wr HZ.out.kb.got HZ.out.rows.node.l);unfold kpt at k0 k1 k2 k3 k4 k5;unfold WkX.gl at HSM;dsimp only at k0 k1 k2 k3 k4 k5
         go_upto_region 16 with fail
         go_wp2_with fail
         refine HSM.out.mono ?_;rintro r w9 ⟨rfl, hb9⟩;dsimp only;have HZ9 := hideIt (HZ.out.keep hb9);clear m0 m1 m2 m3 m4 m5 m6 m7 m8 m9 m10 m11 m12 m13 mf mz k0 k1 k2 k3 k4 k5 kf kz o0 o1 o2 o3 of oz HSM;obtain ⟨⟨m0, m1, m2, m3, m4, m5, m6, m7, m8, m9, m10, m11, m12, m13⟩, mf, mz⟩ := at14 HZ9.out.hp;have hKN := ty_ne HZ9.out.hn HZ9.out.kb.box (by decide)
         go_upto_region 7 with (refine wpList_store_row rfl 38 _ _ rfl N #[.int .i64 X'.d.me, .int .i64 X'.d.n, .int .i64 X'.d.b.t, .int .i64 X'.d.b.v, .int .i64 X'.d.b.r, .slice X'.ba X'.d.b.l.length X'.bc, .int .i64 X'.d.ld, .int .i64 X'.d.L.bi, .int .i64 X'.d.L.bt, .slice X'.la X'.d.L.l.length X'.lc, .int .i64 X'.d.L.cm, .string X'.d.tx, .slice X'.na X'.d.nx.length X'.nc, .slice X'.ma X'.d.mt.length X'.mc] rfl rfl 38 _ HZ9.out.hn (by kernel_rfl) (by rfl) (by simp [Value.oneCell']) ?_)
         go_wp2
         go_roundw
         case rel => exact ⟨t + 1, X'.d, X'.gb, X'.gl, X'.gn, X'.gm, ka, kc, by omega, by go_num, hideIt ⟨⟨setRow_heap _ N _ _ _ _ HZ9.out.hn, (HZ9.out.rows.row _ hNlt).node, HI2.out, below_out HZ9.out.bel (setRow_out _ N _) (fun k e => by omega), HHN.out⟩, (setRow_other _ N _ _ (by omega)).trans HZ9.out.bx, hxN, HME.out.1, HME.out.2⟩, hideIt ⟨(setRow_other _ N K _ (fun e => hKN e.symm)).trans HZ9.out.kb.box, egot_row HZ9.out.kb.got HZ9.out.kb.ne, HZ9.out.kb.lt, HZ9.out.kb.ne⟩⟩
         case measure => simp [intOf]; omega
      ·have hd3 : decide ((stepN d x.e).2 = 0) = false := decide_eq_false hs;generalize (stepN d x.e).2 = er2 at *;go_wp2
       all_goals go_roundw
       case rel => exact ⟨t + 1, d, gb, gl, gn, gm, ka, kc, by omega, by go_num, hideIt ⟨⟨(HSB.out _ HC.out.2.2.2.2).1, HHA.out.keep HC.out.2.2.2.2, HHI.out, below_via HHB.out HC.out.2.2.2.2, HHN.out⟩, blkK HBX.out HC.out.2.2.2.2, hxN, HMN.out.1, HMN.out.2⟩, hideIt (HKB.out.keep HC.out.2.2.2.2)⟩
       case measure => simp [intOf]; omega
    ·have hd2 : decide ((t : Int) < 40) = false := decide_eq_false h40;have HB7 := hideIt HX.out.nin.bel
     go_wp2_with fail
     refine (live_is _).mono ?_;rintro r w3 ⟨rfl, hb3⟩;go_wp2;go_ret
     exact ⟨rfl, below_via HB7.out hb3⟩
   ·have hd1 : decide ((t : Int) < (ev.length : Int)) = false := decide_eq_false (by omega);have HB7 := hideIt HX.out.nin.bel
    go_wp2_with fail
    refine (live_is _).mono ?_;rintro r w3 ⟨rfl, hb3⟩;go_wp2;go_ret
    exact ⟨rfl, below_via HB7.out hb3⟩
 ·have hd0 : decide (er = 0) = false := decide_eq_false h0;clear HN1 HND HIN
  go_wp2_with fail
  refine (live_is _).mono ?_;rintro r w3 ⟨rfl, hb3⟩;go_wp2;go_ret
  exact ⟨rfl, below_via HB1.out hb3⟩
end Go.Proofs.YtcaehfkfohianaaGreat
