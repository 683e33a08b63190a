/- Texts of my own, laid together. -/
import Derived.Test.YtcaehfkfohianaaGreatZq
import Derived.Test.YtcaehfkfohianaaGreatPz23
import Derived.Test.YtcaehfkfohianaaGreatPz08
import Derived.Test.YtcaehfkfohianaaGreatPz18
set_option linter.all false
namespace Go.Proofs.YtcaehfkfohianaaGreat
open Go.RowKit
set_option maxRecDepth 100000 in
set_option maxHeartbeats 16000000 in
theorem again_is (me n t0 v si st : Int) (tx : ByteArray) (l : List EntV) (gl0 ge : Value) (ev : List EvX) (w : World) (hl : EGot w gl0 l) (ht : tx.size ≤ 140737488355328) (he : EvsGot w ge ev) : Calls Tryz.prog 6 #[.agg #[.int .i64 me, .int .i64 n, .int .i64 t0, .int .i64 v, .int .i64 si, .int .i64 st, .string tx, gl0], ge] w fun e w' => e = .returned (.bool true) ∧ Below w.heap.size w w' := by
 have hb0 := below1 w (.cells #[.int .i64 me, .int .i64 n, .int .i64 t0, .int .i64 v, .int .i64 si, .int .i64 st, .string tx, gl0] 30);have HS := hideIt (startN_is me n t0 v si st tx l gl0 (w.alloc (.cells #[.int .i64 me, .int .i64 n, .int .i64 t0, .int .i64 v, .int .i64 si, .int .i64 st, .string tx, gl0] 30)) (hl.keep hb0) ht);have HP := hideIt (heap_alloc_new w (.cells #[.int .i64 me, .int .i64 n, .int .i64 t0, .int .i64 v, .int .i64 si, .int .i64 st, .string tx, gl0] 30));have HB0 := hideIt hb0;have HSI := hideIt (start_go (me := me) (n := n) (t := t0) (v := v) (si := si) (st := st) (tx := tx) (l := l));have HGL := hideIt hl;obtain ⟨lo, lc0, rfl⟩ : ∃ a c, gl0 = .slice a l.length c := by
  obtain ⟨_, a, c, e, _⟩ := hl
  exact ⟨a, c, e⟩
 obtain ⟨ea, ec, rfl, ⟨hec1, hec2⟩, her⟩ := he;have HER := hideIt her;clear hb0 hl ht her;generalize startN me n t0 v si st tx l = Z at *;obtain ⟨d, er⟩ := Z;dsimp only at HS HSI
 go_enter Tryz.func6, Tryz.ntmps6
 go_upto_region 1 with fail
 generalize (World.alloc w _) = W0 at *;have hlt0 : w.heap.size < W0.heap.size := (Array.getElem?_eq_some_iff.1 HP.out).1;obtain ⟨⟨p0, p1, p2, p3, p4, p5, p6, p7⟩, pf, pz⟩ := at8 HP.out
 go_wp2_with fail
 refine HS.out.mono ?_;rintro r w1 ⟨gb, gl, gn, gm, rfl, ho, hb1⟩;dsimp only;clear p0 p1 p2 p3 p4 p5 p6 p7 pf pz HS;obtain ⟨ba, bc, rfl⟩ := Tm.own_len ho.b;obtain ⟨la, lc, rfl⟩ := own_len ho.l;obtain ⟨na, nc, rfl⟩ := Tm.own_len ho.n;obtain ⟨ma, mc, rfl⟩ := Tm.own_len ho.m;have hbn := below1 w1 (.cells #[.int .i64 d.me, .int .i64 d.n, .int .i64 d.b.t, .int .i64 d.b.v, .int .i64 d.b.r, .slice ba d.b.l.length bc, .int .i64 d.ld, .int .i64 d.L.bi, .int .i64 d.L.bt, .slice la d.L.l.length lc, .int .i64 d.L.cm, .string d.tx, .slice na d.nx.length nc, .slice ma d.mt.length mc] 38);have HB1 := hideIt (below_via (below_via HB0.out hb1) hbn);have HN1 := hideIt (heap_alloc_new w1 (.cells #[.int .i64 d.me, .int .i64 d.n, .int .i64 d.b.t, .int .i64 d.b.v, .int .i64 d.b.r, .slice ba d.b.l.length bc, .int .i64 d.ld, .int .i64 d.L.bi, .int .i64 d.L.bt, .slice la d.L.l.length lc, .int .i64 d.L.cm, .string d.tx, .slice na d.nx.length nc, .slice ma d.mt.length mc] 38));have HND := hideIt (fun (h0 : er = 0) => start_at ho (HSI.out h0).1 (HSI.out h0).2 hbn);have HIN := hideIt (fun (h0 : er = 0) => (HSI.out h0).1);have HEQ := hideIt (fun (h0 : er = 0) => (HSI.out h0).2);have HBX := hideIt (blkK (blkK HP.out hb1) hbn);have hsz : w.heap.size < w1.heap.size := by have h2 := hb1.size; omega
 clear ho hb1 hbn HB0 HSI HP hlt0;unfold nodA
 go_upto_region 2 with (refine wpList_store_row rfl 38 _ _ rfl w1.heap.size #[.int .i64 d.me, .int .i64 d.n, .int .i64 d.b.t, .int .i64 d.b.v, .int .i64 d.b.r, .slice ba d.b.l.length bc, .int .i64 d.ld, .int .i64 d.L.bi, .int .i64 d.L.bt, .slice la d.L.l.length lc, .int .i64 d.L.cm, .string d.tx, .slice na d.nx.length nc, .slice ma d.mt.length mc] rfl rfl 38 #[.int .i64 0, .int .i64 0, .int .i64 0, .int .i64 0, .int .i64 0, .slice none 0 0, .int .i64 0, .int .i64 0, .int .i64 0, .slice none 0 0, .int .i64 0, .string ⟨#[]⟩, .slice none 0 0, .slice none 0 0] (heap_alloc_new w1 _) (by kernel_rfl) (by rfl) (by simp [Value.oneCell']) ?_; rw [World.setRow_alloc_new])
 generalize (World.alloc w1 _) = W1 at *;generalize w1.heap.size = N at *
 by_cases h0 : er = 0
 ·subst h0;have HX0 : Hid (NIx w N d (.slice ba d.b.l.length bc) (.slice la d.L.l.length lc) (.slice na d.nx.length nc) (.slice ma d.mt.length mc) me n #[.int .i64 me, .int .i64 n, .int .i64 t0, .int .i64 v, .int .i64 si, .int .i64 st, .string tx, .slice lo l.length lc0] W1) := hideIt ⟨⟨HN1.out, HND.out rfl, HIN.out rfl, HB1.out, Nat.le_of_lt hsz⟩, HBX.out, hsz, by rw [HEQ.out rfl], by rw [HEQ.out rfl]⟩;clear HN1 HND HIN HB1 HBX hsz
  go_upto_region 4 with fail
  go_wp2_with fail
  go_loopw [7] (fun i wr => ∃ (t : Nat) (d : NodeV) (gb gl gn gm : Value), t ≤ ev.length ∧ i = .int .i64 (t : Int) ∧ Hid (NIx w N d gb gl gn gm me n #[.int .i64 me, .int .i64 n, .int .i64 t0, .int .i64 v, .int .i64 si, .int .i64 st, .string tx, .slice lo l.length lc0] wr)) (fun i _ => ev.length - (intOf i).toNat)
  case atStart => exact ⟨0, d, _, _, _, _, Nat.zero_le _, rfl, HX0⟩
  case round =>
   obtain ⟨t, d, gb, gl, gn, gm, ht, rfl, HX⟩ := hrel;clear HX0;have ht0 : (0 : Int) ≤ (t : Int) := by omega
   by_cases hlt : t < ev.length
   ·have hlt' : (t : Int) < (ev.length : Int) := by omega
    have hd1 : decide ((t : Int) < (ev.length : Int)) = true := decide_eq_true hlt'
    by_cases h40 : (t : Int) < 40
    ·have hd2 : decide ((t : Int) < 40) = true := decide_eq_true h40;obtain ⟨eb, off, rfl, hev0⟩ := HER.out t hlt;generalize ev.getD t zEv = x at *;have hev := hev0.keep HX.out.nin.bel;have HSB : Hid (∀ W, Below wr.heap.size wr W → W.heap[N]? = some (.cells #[.int .i64 d.me, .int .i64 d.n, .int .i64 d.b.t, .int .i64 d.b.v, .int .i64 d.b.r, gb, .int .i64 d.ld, .int .i64 d.L.bi, .int .i64 d.L.bt, gl, .int .i64 d.L.cm, .string d.tx, gn, gm] 38 (0, 0)) ∧ EvAt W eb (off + t * 16) x) := hideIt (fun W hW => ⟨blkK HX.out.nin.box hW, hev.keep hW⟩);have HCL : Hid (∀ W, Below wr.heap.size wr W → Calls Tryz.prog 11 #[.agg #[.int .i64 d.me, .int .i64 d.n, .int .i64 d.b.t, .int .i64 d.b.v, .int .i64 d.b.r, gb, .int .i64 d.ld, .int .i64 d.L.bi, .int .i64 d.L.bt, gl, .int .i64 d.L.cm, .string d.tx, gn, gm], .agg #[.int .i64 x.e.kind, .int .i64 x.e.idx, .string x.e.tx, .int .i64 x.e.m.kind, .int .i64 x.e.m.frm, .int .i64 x.e.m.dst, .int .i64 x.e.m.term, .int .i64 x.e.m.pi, .int .i64 x.e.m.pt, .slice x.a x.e.m.es.length x.c, .int .i64 x.e.m.cm, .bool x.e.m.ok, .int .i64 x.e.m.mtch, .int .i64 x.e.m.si, .int .i64 x.e.m.st, .string x.e.m.tx]] W fun r w' => ∃ X' : WkX, r = .returned (.tuple #[.agg #[.int .i64 X'.d.me, .int .i64 X'.d.n, .int .i64 X'.d.b.t, .int .i64 X'.d.b.v, .int .i64 X'.d.b.r, .slice X'.ba X'.d.b.l.length X'.bc, .int .i64 X'.d.ld, .int .i64 X'.d.L.bi, .int .i64 X'.d.L.bt, .slice X'.la X'.d.L.l.length X'.lc, .int .i64 X'.d.L.cm, .string X'.d.tx, .slice X'.na X'.d.nx.length X'.nc, .slice X'.ma X'.d.mt.length X'.mc], .agg #[.slice X'.ra X'.R.length X'.rc, .slice X'.qa X'.M.length X'.qc, .int .i64 X'.ix, .bool X'.wt], .int .i64 (stepN d x.e).2]) ∧ X'.v = (stepN d x.e).1 ∧ WR W.heap.size w' X' ∧ Below W.heap.size W w') := hideIt (fun W hW => stepK_is d gb gl gn gm x.e x.a x.c W (HX.out.nin.at_.keep hW) (hev.keep hW).es HX.out.nin.inv hev.k);have hNlt : N < wr.heap.size := (Array.getElem?_eq_some_iff.1 HX.out.nin.box).1;have hxN : w.heap.size < N := HX.out.lt;have HHI := hideIt HX.out.nin.inv;have HHB := hideIt HX.out.nin.bel;have HHA := hideIt HX.out.nin.at_;have HHN := hideIt HX.out.nin.hN;have HBX := hideIt HX.out.bx;have HMN : Hid (d.me = me ∧ d.n = n) := hideIt ⟨HX.out.me, HX.out.n⟩;have HEK : Hid (i64B x.e.kind) := hideIt hev.k;clear HX hev hev0 hd1 hd2
     go_upto_region 7 with fail
     go_cut [8, 9, 10] from 42 to 51 (fun a b c wy => ∃ p q X', a = .pointer (some ⟨p, 0, none⟩) ∧ b = .pointer (some ⟨q, 0, none⟩) ∧ c = .int .i64 (stepN d x.e).2 ∧ Hid (wy.heap[p]? = some (.cells #[.int .i64 X'.d.me, .int .i64 X'.d.n, .int .i64 X'.d.b.t, .int .i64 X'.d.b.v, .int .i64 X'.d.b.r, .slice X'.ba X'.d.b.l.length X'.bc, .int .i64 X'.d.ld, .int .i64 X'.d.L.bi, .int .i64 X'.d.L.bt, .slice X'.la X'.d.L.l.length X'.lc, .int .i64 X'.d.L.cm, .string X'.d.tx, .slice X'.na X'.d.nx.length X'.nc, .slice X'.ma X'.d.mt.length X'.mc] 38 (0, 0)) ∧ wy.heap[q]? = some (.cells #[.slice X'.ra X'.R.length X'.rc, .slice X'.qa X'.M.length X'.qc, .int .i64 X'.ix, .bool X'.wt] 46 (0, 0)) ∧ X'.v = (stepN d x.e).1 ∧ WR wr.heap.size wy X' ∧ Below wr.heap.size wr wy))
     case first =>
      refine wp_region_held_drew (S := fun W => W.heap[N]? = some (.cells #[.int .i64 d.me, .int .i64 d.n, .int .i64 d.b.t, .int .i64 d.b.v, .int .i64 d.b.r, gb, .int .i64 d.ld, .int .i64 d.L.bi, .int .i64 d.L.bt, gl, .int .i64 d.L.cm, .string d.tx, gn, gm] 38 (0, 0)) ∧ EvAt W eb (off + t * 16) x) (by rfl) (HSB.out _ (Below.refl _ _).drew) (fun hHeld => ?_);refine wpAnyH_take (i := 0) (oi := ⟨some 43, _, _, _, _, _⟩) (v := ?_) rfl (by kernel_rfl) (by kernel_rfl) (by kernel_rfl) (fun _ _ _ h => h) (Or.inl ⟨by rfl, ?_⟩) (by assumption) ?_
      rotate_left
      ·intro w5 hSw;obtain ⟨⟨d0, d1, d2, d3, d4, d5, d6, d7, d8, d9, d10, d11, d12, d13⟩, df, dz⟩ := at14 hSw.1;go_simp
       (try with_reducible rfl)
      try simp only [aP, aQ, aA, aB, aC]
      refine wpAnyH_take (i := 1) (oi := ⟨some 44, _, _, _, _, _⟩) (v := ?_) rfl (by kernel_rfl) (by kernel_rfl) (by kernel_rfl) (fun _ _ _ h => h) (Or.inl ⟨by rfl, ?_⟩) (by assumption) ?_
      rotate_left
      ·intro w5 hSw
       (try dsimp only at hSw)
       go_simp
       (try with_reducible rfl)
      try simp only [aP, aQ, aA, aB, aC]
      refine wpAnyH_take (i := 2) (oi := ⟨some 45, _, _, _, _, _⟩) (v := ?_) rfl (by kernel_rfl) (by kernel_rfl) (by kernel_rfl) (fun _ _ _ h => h) (Or.inl ⟨by rfl, ?_⟩) (by assumption) ?_
      rotate_left
      ·intro w5 hSw
       (try dsimp only at hSw)
       go_simp
       (try with_reducible rfl)
      try simp only [aP, aQ, aA, aB, aC]
      refine wpAnyH_take (i := 3) (oi := ⟨some 46, _, _, _, _, _⟩) (v := ?_) rfl (by kernel_rfl) (by kernel_rfl) (by kernel_rfl) (fun _ _ _ h => h) (Or.inl ⟨by rfl, ?_⟩) (by assumption) ?_
      rotate_left
      ·intro w5 hSw
       (try dsimp only at hSw)
       go_simp
       (try with_reducible rfl)
      try simp only [aP, aQ, aA, aB, aC]
      refine wpAnyH_take (i := 4) (oi := ⟨some 47, _, _, _, _, _⟩) (v := ?_) rfl (by kernel_rfl) (by kernel_rfl) (by kernel_rfl) (fun _ _ _ h => h) (Or.inl ⟨by rfl, ?_⟩) (by assumption) ?_
      rotate_left
      ·intro w5 hSw;have c0 := hSw.2.c0; have c1 := hSw.2.c1; have c2 := hSw.2.c2; have c3 := hSw.2.c3; have c4 := hSw.2.c4; have c5 := hSw.2.c5; have c6 := hSw.2.c6; have c7 := hSw.2.c7; have c8 := hSw.2.c8; have c9 := hSw.2.c9; have c10 := hSw.2.c10; have c11 := hSw.2.c11; have c12 := hSw.2.c12; have c13 := hSw.2.c13; have c14 := hSw.2.c14; have c15 := hSw.2.c15
       go_simp
       (try with_reducible rfl)
      try simp only [aP, aQ, aA, aB, aC]
      refine wpAnyH_ready (rs := [5, 10, 11]) (by kernel_rfl) (by simp) ?_;refine (AllReadyH.cons (o := ⟨some 48, _, _, _, _, _⟩) rfl (fun Kx hK => ?_) (AllReadyH.cons (o := ⟨some 8, _, _, _, _, _⟩) rfl (fun Kx hK => ?_) (AllReadyH.cons (o := ⟨some 9, _, _, _, _, _⟩) rfl (fun Kx hK => ?_) AllReadyH.nil)))
      ·go_simp
       go_at_call 11
       refine (HCL.out _ (by first | exact (Below.refl _ _).drew | exact (below1 _ _).drew | exact below_via (Below.refl _ _).drew (below1 _ _) | exact (below_via (below1 _ _) (below1 _ _)).drew | exact below_via (below_via (Below.refl _ _).drew (below1 _ _)) (below1 _ _))).mono ?_;rintro r w5 ⟨X', rfl, hv, hr, hb⟩;have hbw : Below wr.heap.size wr w5 := below_via (by first | exact (Below.refl _ _).drew | exact (below1 _ _).drew | exact below_via (Below.refl _ _).drew (below1 _ _) | exact (below_via (below1 _ _) (below1 _ _)).drew | exact below_via (below_via (Below.refl _ _).drew (below1 _ _)) (below1 _ _)) hb;refine hK.out _ _ (HSB.out _ hbw) (fun hHeld => ?_);clear hK Kx
       try simp only [aP, aQ, aA, aB, aC]
       refine wpAnyH_take (i := 6) (oi := ⟨some 42, _, _, _, _, _⟩) (v := ?_) rfl (by kernel_rfl) (by kernel_rfl) (by kernel_rfl) (fun _ _ _ h => h) (Or.inl ⟨by rfl, ?_⟩) (by assumption) ?_
       rotate_left
       ·intro w5 hSw
        (try dsimp only at hSw)
        go_simp
        (try with_reducible rfl)
       try simp only [aP, aQ, aA, aB, aC]
       refine wpAnyH_take (i := 7) (oi := ⟨some 49, _, _, _, _, _⟩) (v := ?_) rfl (by kernel_rfl) (by kernel_rfl) (by kernel_rfl) (fun _ _ _ h => h) (Or.inl ⟨by rfl, ?_⟩) (by assumption) ?_
       rotate_left
       ·intro w5 hSw
        (try dsimp only at hSw)
        go_simp
        (try with_reducible rfl)
       try simp only [aP, aQ, aA, aB, aC]
       refine wpAnyH_take (i := 8) (oi := ⟨some 50, _, _, _, _, _⟩) (v := ?_) rfl (by kernel_rfl) (by kernel_rfl) (by kernel_rfl) (fun _ _ _ h => h) (Or.inl ⟨by rfl, ?_⟩) (by assumption) ?_
       rotate_left
       ·intro w5 hSw
        (try dsimp only at hSw)
        go_simp
        (try with_reducible rfl)
       try simp only [aP, aQ, aA, aB, aC]
       refine wpAnyH_take (i := 9) (oi := ⟨some 51, _, _, _, _, _⟩) (v := ?_) rfl (by kernel_rfl) (by kernel_rfl) (by kernel_rfl) (fun _ _ _ h => h) (Or.inl ⟨by rfl, ?_⟩) (by assumption) ?_
       rotate_left
       ·intro w5 hSw
        (try dsimp only at hSw)
        go_simp
        (try with_reducible rfl)
       try simp only [aP, aQ, aA, aB, aC]
       refine wpAnyH_ready (rs := [10, 11]) (by kernel_rfl) (by simp) ?_;refine (AllReadyH.cons (o := ⟨some 8, _, _, _, _, _⟩) rfl (fun Kx hK => ?_) (AllReadyH.cons (o := ⟨some 9, _, _, _, _, _⟩) rfl (fun Kx hK => ?_) AllReadyH.nil))
       ·go_simp;refine hK.out _ _ (HSB.out _ (below_via hbw (below1 _ _))) (fun hHeld => ?_);clear hK Kx
        try simp only [aP, aQ, aA, aB, aC]
        refine wpAnyH_ready (rs := [11]) (by kernel_rfl) (by simp) ?_;refine (AllReadyH.cons (o := ⟨some 9, _, _, _, _, _⟩) rfl (fun Kx hK => ?_) AllReadyH.nil)
        ·go_simp;refine hK.out _ _ (HSB.out _ (below_via (below_via hbw (below1 _ _)) (below1 _ _))) (fun hHeld => ?_);clear hK Kx
         try simp only [aP, aQ, aA, aB, aC]
         have hws : wr.heap.size ≤ w5.heap.size := hbw.size;have hBB : wr.heap.size ≤ wr.drew.heap.size := Nat.le_refl _;have F := two_new (V := wr) (w5 := w5) #[.int .i64 X'.d.me, .int .i64 X'.d.n, .int .i64 X'.d.b.t, .int .i64 X'.d.b.v, .int .i64 X'.d.b.r, .slice X'.ba X'.d.b.l.length X'.bc, .int .i64 X'.d.ld, .int .i64 X'.d.L.bi, .int .i64 X'.d.L.bt, .slice X'.la X'.d.L.l.length X'.lc, .int .i64 X'.d.L.cm, .string X'.d.tx, .slice X'.na X'.d.nx.length X'.nc, .slice X'.ma X'.d.mt.length X'.mc] #[.slice X'.ra X'.R.length X'.rc, .slice X'.qa X'.M.length X'.qc, .int .i64 X'.ix, .bool X'.wt] #[.int .i64 0, .int .i64 0, .int .i64 0, .int .i64 0, .int .i64 0, .slice none 0 0, .int .i64 0, .int .i64 0, .int .i64 0, .slice none 0 0, .int .i64 0, .string ⟨#[]⟩, .slice none 0 0, .slice none 0 0] #[.slice none 0 0, .slice none 0 0, .int .i64 0, .bool false] hr hbw;obtain ⟨f1, f2, f3, f4⟩ := F.out;have HF1 := hideIt f1;have HF2 := hideIt f2;have HF3 := hideIt (f3.base hBB);have HF4 := hideIt f4;have HGP : Hid ((((w5.alloc (.cells #[.int .i64 0, .int .i64 0, .int .i64 0, .int .i64 0, .int .i64 0, .slice none 0 0, .int .i64 0, .int .i64 0, .int .i64 0, .slice none 0 0, .int .i64 0, .string ⟨#[]⟩, .slice none 0 0, .slice none 0 0] 38)).alloc (.cells #[.slice none 0 0, .slice none 0 0, .int .i64 0, .bool false] 46))).heap[w5.heap.size]? = some (.cells #[.int .i64 0, .int .i64 0, .int .i64 0, .int .i64 0, .int .i64 0, .slice none 0 0, .int .i64 0, .int .i64 0, .int .i64 0, .slice none 0 0, .int .i64 0, .string ⟨#[]⟩, .slice none 0 0, .slice none 0 0] 38 (0, 0))) := hideIt (blkK (heap_alloc_new w5 _) (below1 _ _));have HGQ : Hid (((((w5.alloc (.cells #[.int .i64 0, .int .i64 0, .int .i64 0, .int .i64 0, .int .i64 0, .slice none 0 0, .int .i64 0, .int .i64 0, .int .i64 0, .slice none 0 0, .int .i64 0, .string ⟨#[]⟩, .slice none 0 0, .slice none 0 0] 38)).alloc (.cells #[.slice none 0 0, .slice none 0 0, .int .i64 0, .bool false] 46))).setRow (w5.heap.size) #[.int .i64 X'.d.me, .int .i64 X'.d.n, .int .i64 X'.d.b.t, .int .i64 X'.d.b.v, .int .i64 X'.d.b.r, .slice X'.ba X'.d.b.l.length X'.bc, .int .i64 X'.d.ld, .int .i64 X'.d.L.bi, .int .i64 X'.d.L.bt, .slice X'.la X'.d.L.l.length X'.lc, .int .i64 X'.d.L.cm, .string X'.d.tx, .slice X'.na X'.d.nx.length X'.nc, .slice X'.ma X'.d.mt.length X'.mc]).heap[w5.heap.size + 1]? = some (.cells #[.slice none 0 0, .slice none 0 0, .int .i64 0, .bool false] 46 (0, 0))) := hideIt ((setRow_other _ _ _ _ (by omega)).trans (alloc2_new _ _ _ _));have HBW : Hid (Below wr.heap.size wr ((((w5.alloc (.cells #[.int .i64 0, .int .i64 0, .int .i64 0, .int .i64 0, .int .i64 0, .slice none 0 0, .int .i64 0, .int .i64 0, .int .i64 0, .slice none 0 0, .int .i64 0, .string ⟨#[]⟩, .slice none 0 0, .slice none 0 0] 38)).alloc (.cells #[.slice none 0 0, .slice none 0 0, .int .i64 0, .bool false] 46))).setRow (w5.heap.size) #[.int .i64 X'.d.me, .int .i64 X'.d.n, .int .i64 X'.d.b.t, .int .i64 X'.d.b.v, .int .i64 X'.d.b.r, .slice X'.ba X'.d.b.l.length X'.bc, .int .i64 X'.d.ld, .int .i64 X'.d.L.bi, .int .i64 X'.d.L.bt, .slice X'.la X'.d.L.l.length X'.lc, .int .i64 X'.d.L.cm, .string X'.d.tx, .slice X'.na X'.d.nx.length X'.nc, .slice X'.ma X'.d.mt.length X'.mc])) := hideIt (below_out (below_via (below_via hbw (below1 _ _)) (below1 _ _)) (setRow_out _ (w5.heap.size) _) (fun k e => by omega));clear F f1 f2 f3 f4 hHeld;refine wpAnyH_ready (rs := [12]) (by kernel_rfl) (by simp) ?_;refine AllReadyH.cons (o := ⟨none, _, _, _, _, _⟩) rfl (fun Kx hK => ?_) AllReadyH.nil;refine step_store_rowK rfl 38 _ _ rfl (w5.heap.size) #[.int .i64 X'.d.me, .int .i64 X'.d.n, .int .i64 X'.d.b.t, .int .i64 X'.d.b.v, .int .i64 X'.d.b.r, .slice X'.ba X'.d.b.l.length X'.bc, .int .i64 X'.d.ld, .int .i64 X'.d.L.bi, .int .i64 X'.d.L.bt, .slice X'.la X'.d.L.l.length X'.lc, .int .i64 X'.d.L.cm, .string X'.d.tx, .slice X'.na X'.d.nx.length X'.nc, .slice X'.ma X'.d.mt.length X'.mc] rfl rfl 38 _ HGP.out (by kernel_rfl) (by rfl) (by simp [Value.oneCell']) ?_;refine hK.out _ _ (HSB.out _ HBW.out) (fun hHeld => ?_);clear hK Kx
         try simp only [aP, aQ, aA, aB, aC]
         refine wpAnyH_ready (rs := [13]) (by kernel_rfl) (by simp) ?_;refine AllReadyH.cons (o := ⟨none, _, _, _, _, _⟩) rfl (fun Kx hK => ?_) AllReadyH.nil;refine step_store_rowK rfl 46 _ _ rfl (w5.heap.size + 1) #[.slice X'.ra X'.R.length X'.rc, .slice X'.qa X'.M.length X'.qc, .int .i64 X'.ix, .bool X'.wt] rfl rfl 46 _ HGQ.out (by kernel_rfl) (by rfl) (by simp [Value.oneCell']) ?_;refine hK.out _ _ (HSB.out _ HF4.out) (fun hHeld => ?_);clear hK Kx
         try simp only [aP, aQ, aA, aB, aC]
         refine wpAnyH_take (i := 14) (oi := ⟨some 10, _, _, _, _, _⟩) (v := ?_) rfl (by kernel_rfl) (by kernel_rfl) (by kernel_rfl) (fun _ _ _ h => h) (Or.inl ⟨by rfl, ?_⟩) (by assumption) ?_
         rotate_left
         ·intro w5 hSw
          (try dsimp only at hSw)
          go_simp
          (try with_reducible rfl)
         try simp only [aP, aQ, aA, aB, aC]
         refine wpAnyH_done (by kernel_rfl) ?_ _;clear hHeld
         go_wp2_with fail
         go_meet
         exact ⟨_, _, X', rfl, rfl, rfl, hideIt ⟨HF1.out, HF2.out, hv, HF3.out, HF4.out⟩⟩
       ·go_simp;refine hK.out _ _ (HSB.out _ (below_via hbw (below1 _ _))) (fun hHeld => ?_);clear hK Kx
        try simp only [aP, aQ, aA, aB, aC]
        refine wpAnyH_ready (rs := [10]) (by kernel_rfl) (by simp) ?_;refine (AllReadyH.cons (o := ⟨some 8, _, _, _, _, _⟩) rfl (fun Kx hK => ?_) AllReadyH.nil)
        ·go_simp;refine hK.out _ _ (HSB.out _ (below_via (below_via hbw (below1 _ _)) (below1 _ _))) (fun hHeld => ?_);clear hK Kx
         try simp only [aP, aQ, aA, aB, aC]
         have hws : wr.heap.size ≤ w5.heap.size := hbw.size;have hBB : wr.heap.size ≤ wr.drew.heap.size := Nat.le_refl _;have F := two_wen (V := wr) (w5 := w5) #[.int .i64 X'.d.me, .int .i64 X'.d.n, .int .i64 X'.d.b.t, .int .i64 X'.d.b.v, .int .i64 X'.d.b.r, .slice X'.ba X'.d.b.l.length X'.bc, .int .i64 X'.d.ld, .int .i64 X'.d.L.bi, .int .i64 X'.d.L.bt, .slice X'.la X'.d.L.l.length X'.lc, .int .i64 X'.d.L.cm, .string X'.d.tx, .slice X'.na X'.d.nx.length X'.nc, .slice X'.ma X'.d.mt.length X'.mc] #[.slice X'.ra X'.R.length X'.rc, .slice X'.qa X'.M.length X'.qc, .int .i64 X'.ix, .bool X'.wt] #[.int .i64 0, .int .i64 0, .int .i64 0, .int .i64 0, .int .i64 0, .slice none 0 0, .int .i64 0, .int .i64 0, .int .i64 0, .slice none 0 0, .int .i64 0, .string ⟨#[]⟩, .slice none 0 0, .slice none 0 0] #[.slice none 0 0, .slice none 0 0, .int .i64 0, .bool false] hr hbw;obtain ⟨f1, f2, f3, f4⟩ := F.out;have HF1 := hideIt f1;have HF2 := hideIt f2;have HF3 := hideIt (f3.base hBB);have HF4 := hideIt f4;have HGP : Hid ((((w5.alloc (.cells #[.slice none 0 0, .slice none 0 0, .int .i64 0, .bool false] 46)).alloc (.cells #[.int .i64 0, .int .i64 0, .int .i64 0, .int .i64 0, .int .i64 0, .slice none 0 0, .int .i64 0, .int .i64 0, .int .i64 0, .slice none 0 0, .int .i64 0, .string ⟨#[]⟩, .slice none 0 0, .slice none 0 0] 38))).heap[w5.heap.size + 1]? = some (.cells #[.int .i64 0, .int .i64 0, .int .i64 0, .int .i64 0, .int .i64 0, .slice none 0 0, .int .i64 0, .int .i64 0, .int .i64 0, .slice none 0 0, .int .i64 0, .string ⟨#[]⟩, .slice none 0 0, .slice none 0 0] 38 (0, 0))) := hideIt (alloc2_new _ _ _ _);have HGQ : Hid (((((w5.alloc (.cells #[.slice none 0 0, .slice none 0 0, .int .i64 0, .bool false] 46)).alloc (.cells #[.int .i64 0, .int .i64 0, .int .i64 0, .int .i64 0, .int .i64 0, .slice none 0 0, .int .i64 0, .int .i64 0, .int .i64 0, .slice none 0 0, .int .i64 0, .string ⟨#[]⟩, .slice none 0 0, .slice none 0 0] 38))).setRow (w5.heap.size + 1) #[.int .i64 X'.d.me, .int .i64 X'.d.n, .int .i64 X'.d.b.t, .int .i64 X'.d.b.v, .int .i64 X'.d.b.r, .slice X'.ba X'.d.b.l.length X'.bc, .int .i64 X'.d.ld, .int .i64 X'.d.L.bi, .int .i64 X'.d.L.bt, .slice X'.la X'.d.L.l.length X'.lc, .int .i64 X'.d.L.cm, .string X'.d.tx, .slice X'.na X'.d.nx.length X'.nc, .slice X'.ma X'.d.mt.length X'.mc]).heap[w5.heap.size]? = some (.cells #[.slice none 0 0, .slice none 0 0, .int .i64 0, .bool false] 46 (0, 0))) := hideIt ((setRow_other _ _ _ _ (by omega)).trans (blkK (heap_alloc_new w5 _) (below1 _ _)));have HBW : Hid (Below wr.heap.size wr ((((w5.alloc (.cells #[.slice none 0 0, .slice none 0 0, .int .i64 0, .bool false] 46)).alloc (.cells #[.int .i64 0, .int .i64 0, .int .i64 0, .int .i64 0, .int .i64 0, .slice none 0 0, .int .i64 0, .int .i64 0, .int .i64 0, .slice none 0 0, .int .i64 0, .string ⟨#[]⟩, .slice none 0 0, .slice none 0 0] 38))).setRow (w5.heap.size + 1) #[.int .i64 X'.d.me, .int .i64 X'.d.n, .int .i64 X'.d.b.t, .int .i64 X'.d.b.v, .int .i64 X'.d.b.r, .slice X'.ba X'.d.b.l.length X'.bc, .int .i64 X'.d.ld, .int .i64 X'.d.L.bi, .int .i64 X'.d.L.bt, .slice X'.la X'.d.L.l.length X'.lc, .int .i64 X'.d.L.cm, .string X'.d.tx, .slice X'.na X'.d.nx.length X'.nc, .slice X'.ma X'.d.mt.length X'.mc])) := hideIt (below_out (below_via (below_via hbw (below1 _ _)) (below1 _ _)) (setRow_out _ (w5.heap.size + 1) _) (fun k e => by omega));clear F f1 f2 f3 f4 hHeld;refine wpAnyH_ready (rs := [12]) (by kernel_rfl) (by simp) ?_;refine AllReadyH.cons (o := ⟨none, _, _, _, _, _⟩) rfl (fun Kx hK => ?_) AllReadyH.nil;refine step_store_rowK rfl 38 _ _ rfl (w5.heap.size + 1) #[.int .i64 X'.d.me, .int .i64 X'.d.n, .int .i64 X'.d.b.t, .int .i64 X'.d.b.v, .int .i64 X'.d.b.r, .slice X'.ba X'.d.b.l.length X'.bc, .int .i64 X'.d.ld, .int .i64 X'.d.L.bi, .int .i64 X'.d.L.bt, .slice X'.la X'.d.L.l.length X'.lc, .int .i64 X'.d.L.cm, .string X'.d.tx, .slice X'.na X'.d.nx.length X'.nc, .slice X'.ma X'.d.mt.length X'.mc] rfl rfl 38 _ HGP.out (by kernel_rfl) (by rfl) (by simp [Value.oneCell']) ?_;refine hK.out _ _ (HSB.out _ HBW.out) (fun hHeld => ?_);clear hK Kx
         try simp only [aP, aQ, aA, aB, aC]
         refine wpAnyH_ready (rs := [13]) (by kernel_rfl) (by simp) ?_;refine AllReadyH.cons (o := ⟨none, _, _, _, _, _⟩) rfl (fun Kx hK => ?_) AllReadyH.nil;refine step_store_rowK rfl 46 _ _ rfl (w5.heap.size) #[.slice X'.ra X'.R.length X'.rc, .slice X'.qa X'.M.length X'.qc, .int .i64 X'.ix, .bool X'.wt] rfl rfl 46 _ HGQ.out (by kernel_rfl) (by rfl) (by simp [Value.oneCell']) ?_;refine hK.out _ _ (HSB.out _ HF4.out) (fun hHeld => ?_);clear hK Kx
         try simp only [aP, aQ, aA, aB, aC]
         refine wpAnyH_take (i := 14) (oi := ⟨some 10, _, _, _, _, _⟩) (v := ?_) rfl (by kernel_rfl) (by kernel_rfl) (by kernel_rfl) (fun _ _ _ h => h) (Or.inl ⟨by rfl, ?_⟩) (by assumption) ?_
         rotate_left
         ·intro w5 hSw
          (try dsimp only at hSw)
          go_simp
          (try with_reducible rfl)
         try simp only [aP, aQ, aA, aB, aC]
         refine wpAnyH_done (by kernel_rfl) ?_ _;clear hHeld
         go_wp2_with fail
         go_meet
         exact ⟨_, _, X', rfl, rfl, rfl, hideIt ⟨HF1.out, HF2.out, hv, HF3.out, HF4.out⟩⟩
      ·go_simp;refine hK.out _ _ (HSB.out _ (by first | exact (Below.refl _ _).drew | exact (below1 _ _).drew | exact below_via (Below.refl _ _).drew (below1 _ _) | exact (below_via (below1 _ _) (below1 _ _)).drew | exact below_via (below_via (Below.refl _ _).drew (below1 _ _)) (below1 _ _))) (fun hHeld => ?_);clear hK Kx
       try simp only [aP, aQ, aA, aB, aC]
       refine wpAnyH_ready (rs := [5, 11]) (by kernel_rfl) (by simp) ?_;refine (AllReadyH.cons (o := ⟨some 48, _, _, _, _, _⟩) rfl (fun Kx hK => ?_) (AllReadyH.cons (o := ⟨some 9, _, _, _, _, _⟩) rfl (fun Kx hK => ?_) AllReadyH.nil))
       ·go_simp
        go_at_call 11
        refine (HCL.out _ (by first | exact (Below.refl _ _).drew | exact (below1 _ _).drew | exact below_via (Below.refl _ _).drew (below1 _ _) | exact (below_via (below1 _ _) (below1 _ _)).drew | exact below_via (below_via (Below.refl _ _).drew (below1 _ _)) (below1 _ _))).mono ?_;rintro r w5 ⟨X', rfl, hv, hr, hb⟩;have hbw : Below wr.heap.size wr w5 := below_via (by first | exact (Below.refl _ _).drew | exact (below1 _ _).drew | exact below_via (Below.refl _ _).drew (below1 _ _) | exact (below_via (below1 _ _) (below1 _ _)).drew | exact below_via (below_via (Below.refl _ _).drew (below1 _ _)) (below1 _ _)) hb;refine hK.out _ _ (HSB.out _ hbw) (fun hHeld => ?_);clear hK Kx
        try simp only [aP, aQ, aA, aB, aC]
        refine wpAnyH_take (i := 6) (oi := ⟨some 42, _, _, _, _, _⟩) (v := ?_) rfl (by kernel_rfl) (by kernel_rfl) (by kernel_rfl) (fun _ _ _ h => h) (Or.inl ⟨by rfl, ?_⟩) (by assumption) ?_
        rotate_left
        ·intro w5 hSw
         (try dsimp only at hSw)
         go_simp
         (try with_reducible rfl)
        try simp only [aP, aQ, aA, aB, aC]
        refine wpAnyH_take (i := 7) (oi := ⟨some 49, _, _, _, _, _⟩) (v := ?_) rfl (by kernel_rfl) (by kernel_rfl) (by kernel_rfl) (fun _ _ _ h => h) (Or.inl ⟨by rfl, ?_⟩) (by assumption) ?_
        rotate_left
        ·intro w5 hSw
         (try dsimp only at hSw)
         go_simp
         (try with_reducible rfl)
        try simp only [aP, aQ, aA, aB, aC]
        refine wpAnyH_take (i := 8) (oi := ⟨some 50, _, _, _, _, _⟩) (v := ?_) rfl (by kernel_rfl) (by kernel_rfl) (by kernel_rfl) (fun _ _ _ h => h) (Or.inl ⟨by rfl, ?_⟩) (by assumption) ?_
        rotate_left
        ·intro w5 hSw
         (try dsimp only at hSw)
         go_simp
         (try with_reducible rfl)
        try simp only [aP, aQ, aA, aB, aC]
        refine wpAnyH_take (i := 9) (oi := ⟨some 51, _, _, _, _, _⟩) (v := ?_) rfl (by kernel_rfl) (by kernel_rfl) (by kernel_rfl) (fun _ _ _ h => h) (Or.inl ⟨by rfl, ?_⟩) (by assumption) ?_
        rotate_left
        ·intro w5 hSw
         (try dsimp only at hSw)
         go_simp
         (try with_reducible rfl)
        try simp only [aP, aQ, aA, aB, aC]
        refine wpAnyH_ready (rs := [11]) (by kernel_rfl) (by simp) ?_;refine (AllReadyH.cons (o := ⟨some 9, _, _, _, _, _⟩) rfl (fun Kx hK => ?_) AllReadyH.nil)
        ·go_simp;refine hK.out _ _ (HSB.out _ (below_via hbw (below1 _ _))) (fun hHeld => ?_);clear hK Kx
         try simp only [aP, aQ, aA, aB, aC]
         have hws : wr.heap.size ≤ w5.heap.size := hbw.size;have hlB : wr.heap.size < (wr.alloc (.cells #[.int .i64 0, .int .i64 0, .int .i64 0, .int .i64 0, .int .i64 0, .slice none 0 0, .int .i64 0, .int .i64 0, .int .i64 0, .slice none 0 0, .int .i64 0, .string ⟨#[]⟩, .slice none 0 0, .slice none 0 0] 38)).drew.heap.size := show wr.heap.size < (wr.alloc (.cells #[.int .i64 0, .int .i64 0, .int .i64 0, .int .i64 0, .int .i64 0, .slice none 0 0, .int .i64 0, .int .i64 0, .int .i64 0, .slice none 0 0, .int .i64 0, .string ⟨#[]⟩, .slice none 0 0, .slice none 0 0] 38)).heap.size by first | (simp; done) | (simp; omega)
         have hlt5 : wr.heap.size < w5.heap.size := Nat.lt_of_lt_of_le hlB hb.size;have hBB : wr.heap.size ≤ (wr.alloc (.cells #[.int .i64 0, .int .i64 0, .int .i64 0, .int .i64 0, .int .i64 0, .slice none 0 0, .int .i64 0, .int .i64 0, .int .i64 0, .slice none 0 0, .int .i64 0, .string ⟨#[]⟩, .slice none 0 0, .slice none 0 0] 38)).drew.heap.size := Nat.le_of_lt hlB;have hp0 : w5.heap[wr.heap.size]? = some (.cells #[.int .i64 0, .int .i64 0, .int .i64 0, .int .i64 0, .int .i64 0, .slice none 0 0, .int .i64 0, .int .i64 0, .int .i64 0, .slice none 0 0, .int .i64 0, .string ⟨#[]⟩, .slice none 0 0, .slice none 0 0] 38 (0, 0)) := blkK (w := (wr.alloc (.cells #[.int .i64 0, .int .i64 0, .int .i64 0, .int .i64 0, .int .i64 0, .slice none 0 0, .int .i64 0, .int .i64 0, .int .i64 0, .slice none 0 0, .int .i64 0, .string ⟨#[]⟩, .slice none 0 0, .slice none 0 0] 38)).drew) (heap_alloc_new wr _) hb;have F := two_q (V := wr) (w5 := w5) #[.int .i64 X'.d.me, .int .i64 X'.d.n, .int .i64 X'.d.b.t, .int .i64 X'.d.b.v, .int .i64 X'.d.b.r, .slice X'.ba X'.d.b.l.length X'.bc, .int .i64 X'.d.ld, .int .i64 X'.d.L.bi, .int .i64 X'.d.L.bt, .slice X'.la X'.d.L.l.length X'.lc, .int .i64 X'.d.L.cm, .string X'.d.tx, .slice X'.na X'.d.nx.length X'.nc, .slice X'.ma X'.d.mt.length X'.mc] #[.slice X'.ra X'.R.length X'.rc, .slice X'.qa X'.M.length X'.qc, .int .i64 X'.ix, .bool X'.wt] #[.slice none 0 0, .slice none 0 0, .int .i64 0, .bool false] hr hp0 hlB hbw (Nat.le_refl _);obtain ⟨f1, f2, f3, f4⟩ := F.out;have HF1 := hideIt f1;have HF2 := hideIt f2;have HF3 := hideIt (f3.base hBB);have HF4 := hideIt f4;have HGP : Hid (((w5.alloc (.cells #[.slice none 0 0, .slice none 0 0, .int .i64 0, .bool false] 46))).heap[wr.heap.size]? = some (.cells #[.int .i64 0, .int .i64 0, .int .i64 0, .int .i64 0, .int .i64 0, .slice none 0 0, .int .i64 0, .int .i64 0, .int .i64 0, .slice none 0 0, .int .i64 0, .string ⟨#[]⟩, .slice none 0 0, .slice none 0 0] 38 (0, 0))) := hideIt (blkK hp0 (below1 _ _));have HGQ : Hid ((((w5.alloc (.cells #[.slice none 0 0, .slice none 0 0, .int .i64 0, .bool false] 46))).setRow (wr.heap.size) #[.int .i64 X'.d.me, .int .i64 X'.d.n, .int .i64 X'.d.b.t, .int .i64 X'.d.b.v, .int .i64 X'.d.b.r, .slice X'.ba X'.d.b.l.length X'.bc, .int .i64 X'.d.ld, .int .i64 X'.d.L.bi, .int .i64 X'.d.L.bt, .slice X'.la X'.d.L.l.length X'.lc, .int .i64 X'.d.L.cm, .string X'.d.tx, .slice X'.na X'.d.nx.length X'.nc, .slice X'.ma X'.d.mt.length X'.mc]).heap[w5.heap.size]? = some (.cells #[.slice none 0 0, .slice none 0 0, .int .i64 0, .bool false] 46 (0, 0))) := hideIt ((setRow_other _ _ _ _ (by omega)).trans (heap_alloc_new w5 _));have HBW : Hid (Below wr.heap.size wr (((w5.alloc (.cells #[.slice none 0 0, .slice none 0 0, .int .i64 0, .bool false] 46))).setRow (wr.heap.size) #[.int .i64 X'.d.me, .int .i64 X'.d.n, .int .i64 X'.d.b.t, .int .i64 X'.d.b.v, .int .i64 X'.d.b.r, .slice X'.ba X'.d.b.l.length X'.bc, .int .i64 X'.d.ld, .int .i64 X'.d.L.bi, .int .i64 X'.d.L.bt, .slice X'.la X'.d.L.l.length X'.lc, .int .i64 X'.d.L.cm, .string X'.d.tx, .slice X'.na X'.d.nx.length X'.nc, .slice X'.ma X'.d.mt.length X'.mc])) := hideIt (below_out (below_via hbw (below1 _ _)) (setRow_out _ (wr.heap.size) _) (fun k e => by omega));clear F f1 f2 f3 f4 hHeld;refine wpAnyH_ready (rs := [12]) (by kernel_rfl) (by simp) ?_;refine AllReadyH.cons (o := ⟨none, _, _, _, _, _⟩) rfl (fun Kx hK => ?_) AllReadyH.nil;refine step_store_rowK rfl 38 _ _ rfl (wr.heap.size) #[.int .i64 X'.d.me, .int .i64 X'.d.n, .int .i64 X'.d.b.t, .int .i64 X'.d.b.v, .int .i64 X'.d.b.r, .slice X'.ba X'.d.b.l.length X'.bc, .int .i64 X'.d.ld, .int .i64 X'.d.L.bi, .int .i64 X'.d.L.bt, .slice X'.la X'.d.L.l.length X'.lc, .int .i64 X'.d.L.cm, .string X'.d.tx, .slice X'.na X'.d.nx.length X'.nc, .slice X'.ma X'.d.mt.length X'.mc] rfl rfl 38 _ HGP.out (by kernel_rfl) (by rfl) (by simp [Value.oneCell']) ?_;refine hK.out _ _ (HSB.out _ HBW.out) (fun hHeld => ?_);clear hK Kx
         try simp only [aP, aQ, aA, aB, aC]
         refine wpAnyH_ready (rs := [13]) (by kernel_rfl) (by simp) ?_;refine AllReadyH.cons (o := ⟨none, _, _, _, _, _⟩) rfl (fun Kx hK => ?_) AllReadyH.nil;refine step_store_rowK rfl 46 _ _ rfl (w5.heap.size) #[.slice X'.ra X'.R.length X'.rc, .slice X'.qa X'.M.length X'.qc, .int .i64 X'.ix, .bool X'.wt] rfl rfl 46 _ HGQ.out (by kernel_rfl) (by rfl) (by simp [Value.oneCell']) ?_;refine hK.out _ _ (HSB.out _ HF4.out) (fun hHeld => ?_);clear hK Kx
         try simp only [aP, aQ, aA, aB, aC]
         refine wpAnyH_take (i := 14) (oi := ⟨some 10, _, _, _, _, _⟩) (v := ?_) rfl (by kernel_rfl) (by kernel_rfl) (by kernel_rfl) (fun _ _ _ h => h) (Or.inl ⟨by rfl, ?_⟩) (by assumption) ?_
         rotate_left
         ·intro w5 hSw
          (try dsimp only at hSw)
          go_simp
          (try with_reducible rfl)
         try simp only [aP, aQ, aA, aB, aC]
         refine wpAnyH_done (by kernel_rfl) ?_ _;clear hHeld
         go_wp2_with fail
         go_meet
         exact ⟨_, _, X', rfl, rfl, rfl, hideIt ⟨HF1.out, HF2.out, hv, HF3.out, HF4.out⟩⟩
       ·go_simp;refine hK.out _ _ (HSB.out _ (by first | exact (Below.refl _ _).drew | exact (below1 _ _).drew | exact below_via (Below.refl _ _).drew (below1 _ _) | exact (below_via (below1 _ _) (below1 _ _)).drew | exact below_via (below_via (Below.refl _ _).drew (below1 _ _)) (below1 _ _))) (fun hHeld => ?_);clear hK Kx
        try simp only [aP, aQ, aA, aB, aC]
        refine wpAnyH_ready (rs := [5]) (by kernel_rfl) (by simp) ?_;refine (AllReadyH.cons (o := ⟨some 48, _, _, _, _, _⟩) rfl (fun Kx hK => ?_) AllReadyH.nil)
        ·go_simp
         go_at_call 11
         refine (HCL.out _ (by first | exact (Below.refl _ _).drew | exact (below1 _ _).drew | exact below_via (Below.refl _ _).drew (below1 _ _) | exact (below_via (below1 _ _) (below1 _ _)).drew | exact below_via (below_via (Below.refl _ _).drew (below1 _ _)) (below1 _ _))).mono ?_;rintro r w5 ⟨X', rfl, hv, hr, hb⟩;have hbw : Below wr.heap.size wr w5 := below_via (by first | exact (Below.refl _ _).drew | exact (below1 _ _).drew | exact below_via (Below.refl _ _).drew (below1 _ _) | exact (below_via (below1 _ _) (below1 _ _)).drew | exact below_via (below_via (Below.refl _ _).drew (below1 _ _)) (below1 _ _)) hb;refine hK.out _ _ (HSB.out _ hbw) (fun hHeld => ?_);clear hK Kx
         try simp only [aP, aQ, aA, aB, aC]
         refine wpAnyH_take (i := 6) (oi := ⟨some 42, _, _, _, _, _⟩) (v := ?_) rfl (by kernel_rfl) (by kernel_rfl) (by kernel_rfl) (fun _ _ _ h => h) (Or.inl ⟨by rfl, ?_⟩) (by assumption) ?_
         rotate_left
         ·intro w5 hSw
          (try dsimp only at hSw)
          go_simp
          (try with_reducible rfl)
         try simp only [aP, aQ, aA, aB, aC]
         refine wpAnyH_take (i := 7) (oi := ⟨some 49, _, _, _, _, _⟩) (v := ?_) rfl (by kernel_rfl) (by kernel_rfl) (by kernel_rfl) (fun _ _ _ h => h) (Or.inl ⟨by rfl, ?_⟩) (by assumption) ?_
         rotate_left
         ·intro w5 hSw
          (try dsimp only at hSw)
          go_simp
          (try with_reducible rfl)
         try simp only [aP, aQ, aA, aB, aC]
         refine wpAnyH_take (i := 8) (oi := ⟨some 50, _, _, _, _, _⟩) (v := ?_) rfl (by kernel_rfl) (by kernel_rfl) (by kernel_rfl) (fun _ _ _ h => h) (Or.inl ⟨by rfl, ?_⟩) (by assumption) ?_
         rotate_left
         ·intro w5 hSw
          (try dsimp only at hSw)
          go_simp
          (try with_reducible rfl)
         try simp only [aP, aQ, aA, aB, aC]
         refine wpAnyH_take (i := 9) (oi := ⟨some 51, _, _, _, _, _⟩) (v := ?_) rfl (by kernel_rfl) (by kernel_rfl) (by kernel_rfl) (fun _ _ _ h => h) (Or.inl ⟨by rfl, ?_⟩) (by assumption) ?_
         rotate_left
         ·intro w5 hSw
          (try dsimp only at hSw)
          go_simp
          (try with_reducible rfl)
         try simp only [aP, aQ, aA, aB, aC]
         have hws : wr.heap.size ≤ w5.heap.size := hbw.size;have hlB : wr.heap.size < ((wr.alloc (.cells #[.int .i64 0, .int .i64 0, .int .i64 0, .int .i64 0, .int .i64 0, .slice none 0 0, .int .i64 0, .int .i64 0, .int .i64 0, .slice none 0 0, .int .i64 0, .string ⟨#[]⟩, .slice none 0 0, .slice none 0 0] 38)).alloc (.cells #[.slice none 0 0, .slice none 0 0, .int .i64 0, .bool false] 46)).drew.heap.size := show wr.heap.size < ((wr.alloc (.cells #[.int .i64 0, .int .i64 0, .int .i64 0, .int .i64 0, .int .i64 0, .slice none 0 0, .int .i64 0, .int .i64 0, .int .i64 0, .slice none 0 0, .int .i64 0, .string ⟨#[]⟩, .slice none 0 0, .slice none 0 0] 38)).alloc (.cells #[.slice none 0 0, .slice none 0 0, .int .i64 0, .bool false] 46)).heap.size by first | (simp; done) | (simp; omega)
         have hlt5 : wr.heap.size < w5.heap.size := Nat.lt_of_lt_of_le hlB hb.size;have hlB1 : wr.heap.size + 1 < ((wr.alloc (.cells #[.int .i64 0, .int .i64 0, .int .i64 0, .int .i64 0, .int .i64 0, .slice none 0 0, .int .i64 0, .int .i64 0, .int .i64 0, .slice none 0 0, .int .i64 0, .string ⟨#[]⟩, .slice none 0 0, .slice none 0 0] 38)).alloc (.cells #[.slice none 0 0, .slice none 0 0, .int .i64 0, .bool false] 46)).drew.heap.size := show wr.heap.size + 1 < ((wr.alloc (.cells #[.int .i64 0, .int .i64 0, .int .i64 0, .int .i64 0, .int .i64 0, .slice none 0 0, .int .i64 0, .int .i64 0, .int .i64 0, .slice none 0 0, .int .i64 0, .string ⟨#[]⟩, .slice none 0 0, .slice none 0 0] 38)).alloc (.cells #[.slice none 0 0, .slice none 0 0, .int .i64 0, .bool false] 46)).heap.size by first | (simp; done) | (simp; omega)
         have hBB : wr.heap.size ≤ ((wr.alloc (.cells #[.int .i64 0, .int .i64 0, .int .i64 0, .int .i64 0, .int .i64 0, .slice none 0 0, .int .i64 0, .int .i64 0, .int .i64 0, .slice none 0 0, .int .i64 0, .string ⟨#[]⟩, .slice none 0 0, .slice none 0 0] 38)).alloc (.cells #[.slice none 0 0, .slice none 0 0, .int .i64 0, .bool false] 46)).drew.heap.size := Nat.le_of_lt hlB;have hp0 : w5.heap[wr.heap.size]? = some (.cells #[.int .i64 0, .int .i64 0, .int .i64 0, .int .i64 0, .int .i64 0, .slice none 0 0, .int .i64 0, .int .i64 0, .int .i64 0, .slice none 0 0, .int .i64 0, .string ⟨#[]⟩, .slice none 0 0, .slice none 0 0] 38 (0, 0)) := blkK (w := ((wr.alloc (.cells #[.int .i64 0, .int .i64 0, .int .i64 0, .int .i64 0, .int .i64 0, .slice none 0 0, .int .i64 0, .int .i64 0, .int .i64 0, .slice none 0 0, .int .i64 0, .string ⟨#[]⟩, .slice none 0 0, .slice none 0 0] 38)).alloc (.cells #[.slice none 0 0, .slice none 0 0, .int .i64 0, .bool false] 46)).drew) (blkK (heap_alloc_new wr _) (below1 _ _).drew) hb;have hq0 : w5.heap[wr.heap.size + 1]? = some (.cells #[.slice none 0 0, .slice none 0 0, .int .i64 0, .bool false] 46 (0, 0)) := blkK (w := ((wr.alloc (.cells #[.int .i64 0, .int .i64 0, .int .i64 0, .int .i64 0, .int .i64 0, .slice none 0 0, .int .i64 0, .int .i64 0, .int .i64 0, .slice none 0 0, .int .i64 0, .string ⟨#[]⟩, .slice none 0 0, .slice none 0 0] 38)).alloc (.cells #[.slice none 0 0, .slice none 0 0, .int .i64 0, .bool false] 46)).drew) (alloc2_new _ _ _ _) hb;have F := two_old (V := wr) (w5 := w5) #[.int .i64 X'.d.me, .int .i64 X'.d.n, .int .i64 X'.d.b.t, .int .i64 X'.d.b.v, .int .i64 X'.d.b.r, .slice X'.ba X'.d.b.l.length X'.bc, .int .i64 X'.d.ld, .int .i64 X'.d.L.bi, .int .i64 X'.d.L.bt, .slice X'.la X'.d.L.l.length X'.lc, .int .i64 X'.d.L.cm, .string X'.d.tx, .slice X'.na X'.d.nx.length X'.nc, .slice X'.ma X'.d.mt.length X'.mc] #[.slice X'.ra X'.R.length X'.rc, .slice X'.qa X'.M.length X'.qc, .int .i64 X'.ix, .bool X'.wt] hr hp0 hq0 (by omega) hlB hlB1 hbw (Nat.le_refl _) (Nat.le_succ _);obtain ⟨f1, f2, f3, f4⟩ := F.out;have HF1 := hideIt f1;have HF2 := hideIt f2;have HF3 := hideIt (f3.base hBB);have HF4 := hideIt f4;have HGP : Hid ((w5).heap[wr.heap.size]? = some (.cells #[.int .i64 0, .int .i64 0, .int .i64 0, .int .i64 0, .int .i64 0, .slice none 0 0, .int .i64 0, .int .i64 0, .int .i64 0, .slice none 0 0, .int .i64 0, .string ⟨#[]⟩, .slice none 0 0, .slice none 0 0] 38 (0, 0))) := hideIt (hp0);have HGQ : Hid (((w5).setRow (wr.heap.size) #[.int .i64 X'.d.me, .int .i64 X'.d.n, .int .i64 X'.d.b.t, .int .i64 X'.d.b.v, .int .i64 X'.d.b.r, .slice X'.ba X'.d.b.l.length X'.bc, .int .i64 X'.d.ld, .int .i64 X'.d.L.bi, .int .i64 X'.d.L.bt, .slice X'.la X'.d.L.l.length X'.lc, .int .i64 X'.d.L.cm, .string X'.d.tx, .slice X'.na X'.d.nx.length X'.nc, .slice X'.ma X'.d.mt.length X'.mc]).heap[wr.heap.size + 1]? = some (.cells #[.slice none 0 0, .slice none 0 0, .int .i64 0, .bool false] 46 (0, 0))) := hideIt ((setRow_other _ _ _ _ (by omega)).trans (hq0));have HBW : Hid (Below wr.heap.size wr ((w5).setRow (wr.heap.size) #[.int .i64 X'.d.me, .int .i64 X'.d.n, .int .i64 X'.d.b.t, .int .i64 X'.d.b.v, .int .i64 X'.d.b.r, .slice X'.ba X'.d.b.l.length X'.bc, .int .i64 X'.d.ld, .int .i64 X'.d.L.bi, .int .i64 X'.d.L.bt, .slice X'.la X'.d.L.l.length X'.lc, .int .i64 X'.d.L.cm, .string X'.d.tx, .slice X'.na X'.d.nx.length X'.nc, .slice X'.ma X'.d.mt.length X'.mc])) := hideIt (below_out (hbw) (setRow_out _ (wr.heap.size) _) (fun k e => by omega));clear F f1 f2 f3 f4 hHeld;refine wpAnyH_ready (rs := [12]) (by kernel_rfl) (by simp) ?_;refine AllReadyH.cons (o := ⟨none, _, _, _, _, _⟩) rfl (fun Kx hK => ?_) AllReadyH.nil;refine step_store_rowK rfl 38 _ _ rfl (wr.heap.size) #[.int .i64 X'.d.me, .int .i64 X'.d.n, .int .i64 X'.d.b.t, .int .i64 X'.d.b.v, .int .i64 X'.d.b.r, .slice X'.ba X'.d.b.l.length X'.bc, .int .i64 X'.d.ld, .int .i64 X'.d.L.bi, .int .i64 X'.d.L.bt, .slice X'.la X'.d.L.l.length X'.lc, .int .i64 X'.d.L.cm, .string X'.d.tx, .slice X'.na X'.d.nx.length X'.nc, .slice X'.ma X'.d.mt.length X'.mc] rfl rfl 38 _ HGP.out (by kernel_rfl) (by rfl) (by simp [Value.oneCell']) ?_;refine hK.out _ _ (HSB.out _ HBW.out) (fun hHeld => ?_);clear hK Kx
         try simp only [aP, aQ, aA, aB, aC]
         refine wpAnyH_ready (rs := [13]) (by kernel_rfl) (by simp) ?_;refine AllReadyH.cons (o := ⟨none, _, _, _, _, _⟩) rfl (fun Kx hK => ?_) AllReadyH.nil;refine step_store_rowK rfl 46 _ _ rfl (wr.heap.size + 1) #[.slice X'.ra X'.R.length X'.rc, .slice X'.qa X'.M.length X'.qc, .int .i64 X'.ix, .bool X'.wt] rfl rfl 46 _ HGQ.out (by kernel_rfl) (by rfl) (by simp [Value.oneCell']) ?_;refine hK.out _ _ (HSB.out _ HF4.out) (fun hHeld => ?_);clear hK Kx
         try simp only [aP, aQ, aA, aB, aC]
         refine wpAnyH_take (i := 14) (oi := ⟨some 10, _, _, _, _, _⟩) (v := ?_) rfl (by kernel_rfl) (by kernel_rfl) (by kernel_rfl) (fun _ _ _ h => h) (Or.inl ⟨by rfl, ?_⟩) (by assumption) ?_
         rotate_left
         ·intro w5 hSw
          (try dsimp only at hSw)
          go_simp
          (try with_reducible rfl)
         try simp only [aP, aQ, aA, aB, aC]
         refine wpAnyH_done (by kernel_rfl) ?_ _;clear hHeld
         go_wp2_with fail
         go_meet
         exact ⟨_, _, X', rfl, rfl, rfl, hideIt ⟨HF1.out, HF2.out, hv, HF3.out, HF4.out⟩⟩
      ·go_simp;refine hK.out _ _ (HSB.out _ (by first | exact (Below.refl _ _).drew | exact (below1 _ _).drew | exact below_via (Below.refl _ _).drew (below1 _ _) | exact (below_via (below1 _ _) (below1 _ _)).drew | exact below_via (below_via (Below.refl _ _).drew (below1 _ _)) (below1 _ _))) (fun hHeld => ?_);clear hK Kx
       try simp only [aP, aQ, aA, aB, aC]
       refine wpAnyH_ready (rs := [5, 10]) (by kernel_rfl) (by simp) ?_;refine (AllReadyH.cons (o := ⟨some 48, _, _, _, _, _⟩) rfl (fun Kx hK => ?_) (AllReadyH.cons (o := ⟨some 8, _, _, _, _, _⟩) rfl (fun Kx hK => ?_) AllReadyH.nil))
       ·go_simp
        go_at_call 11
        refine (HCL.out _ (by first | exact (Below.refl _ _).drew | exact (below1 _ _).drew | exact below_via (Below.refl _ _).drew (below1 _ _) | exact (below_via (below1 _ _) (below1 _ _)).drew | exact below_via (below_via (Below.refl _ _).drew (below1 _ _)) (below1 _ _))).mono ?_;rintro r w5 ⟨X', rfl, hv, hr, hb⟩;have hbw : Below wr.heap.size wr w5 := below_via (by first | exact (Below.refl _ _).drew | exact (below1 _ _).drew | exact below_via (Below.refl _ _).drew (below1 _ _) | exact (below_via (below1 _ _) (below1 _ _)).drew | exact below_via (below_via (Below.refl _ _).drew (below1 _ _)) (below1 _ _)) hb;refine hK.out _ _ (HSB.out _ hbw) (fun hHeld => ?_);clear hK Kx
        try simp only [aP, aQ, aA, aB, aC]
        refine wpAnyH_take (i := 6) (oi := ⟨some 42, _, _, _, _, _⟩) (v := ?_) rfl (by kernel_rfl) (by kernel_rfl) (by kernel_rfl) (fun _ _ _ h => h) (Or.inl ⟨by rfl, ?_⟩) (by assumption) ?_
        rotate_left
        ·intro w5 hSw
         (try dsimp only at hSw)
         go_simp
         (try with_reducible rfl)
        try simp only [aP, aQ, aA, aB, aC]
        refine wpAnyH_take (i := 7) (oi := ⟨some 49, _, _, _, _, _⟩) (v := ?_) rfl (by kernel_rfl) (by kernel_rfl) (by kernel_rfl) (fun _ _ _ h => h) (Or.inl ⟨by rfl, ?_⟩) (by assumption) ?_
        rotate_left
        ·intro w5 hSw
         (try dsimp only at hSw)
         go_simp
         (try with_reducible rfl)
        try simp only [aP, aQ, aA, aB, aC]
        refine wpAnyH_take (i := 8) (oi := ⟨some 50, _, _, _, _, _⟩) (v := ?_) rfl (by kernel_rfl) (by kernel_rfl) (by kernel_rfl) (fun _ _ _ h => h) (Or.inl ⟨by rfl, ?_⟩) (by assumption) ?_
        rotate_left
        ·intro w5 hSw
         (try dsimp only at hSw)
         go_simp
         (try with_reducible rfl)
        try simp only [aP, aQ, aA, aB, aC]
        refine wpAnyH_take (i := 9) (oi := ⟨some 51, _, _, _, _, _⟩) (v := ?_) rfl (by kernel_rfl) (by kernel_rfl) (by kernel_rfl) (fun _ _ _ h => h) (Or.inl ⟨by rfl, ?_⟩) (by assumption) ?_
        rotate_left
        ·intro w5 hSw
         (try dsimp only at hSw)
         go_simp
         (try with_reducible rfl)
        try simp only [aP, aQ, aA, aB, aC]
        refine wpAnyH_ready (rs := [10]) (by kernel_rfl) (by simp) ?_;refine (AllReadyH.cons (o := ⟨some 8, _, _, _, _, _⟩) rfl (fun Kx hK => ?_) AllReadyH.nil)
        ·go_simp;refine hK.out _ _ (HSB.out _ (below_via hbw (below1 _ _))) (fun hHeld => ?_);clear hK Kx
         try simp only [aP, aQ, aA, aB, aC]
         have hws : wr.heap.size ≤ w5.heap.size := hbw.size;have hlB : wr.heap.size < (wr.alloc (.cells #[.slice none 0 0, .slice none 0 0, .int .i64 0, .bool false] 46)).drew.heap.size := show wr.heap.size < (wr.alloc (.cells #[.slice none 0 0, .slice none 0 0, .int .i64 0, .bool false] 46)).heap.size by first | (simp; done) | (simp; omega)
         have hlt5 : wr.heap.size < w5.heap.size := Nat.lt_of_lt_of_le hlB hb.size;have hBB : wr.heap.size ≤ (wr.alloc (.cells #[.slice none 0 0, .slice none 0 0, .int .i64 0, .bool false] 46)).drew.heap.size := Nat.le_of_lt hlB;have hq0 : w5.heap[wr.heap.size]? = some (.cells #[.slice none 0 0, .slice none 0 0, .int .i64 0, .bool false] 46 (0, 0)) := blkK (w := (wr.alloc (.cells #[.slice none 0 0, .slice none 0 0, .int .i64 0, .bool false] 46)).drew) (heap_alloc_new wr _) hb;have F := two_p (V := wr) (w5 := w5) #[.int .i64 X'.d.me, .int .i64 X'.d.n, .int .i64 X'.d.b.t, .int .i64 X'.d.b.v, .int .i64 X'.d.b.r, .slice X'.ba X'.d.b.l.length X'.bc, .int .i64 X'.d.ld, .int .i64 X'.d.L.bi, .int .i64 X'.d.L.bt, .slice X'.la X'.d.L.l.length X'.lc, .int .i64 X'.d.L.cm, .string X'.d.tx, .slice X'.na X'.d.nx.length X'.nc, .slice X'.ma X'.d.mt.length X'.mc] #[.slice X'.ra X'.R.length X'.rc, .slice X'.qa X'.M.length X'.qc, .int .i64 X'.ix, .bool X'.wt] #[.int .i64 0, .int .i64 0, .int .i64 0, .int .i64 0, .int .i64 0, .slice none 0 0, .int .i64 0, .int .i64 0, .int .i64 0, .slice none 0 0, .int .i64 0, .string ⟨#[]⟩, .slice none 0 0, .slice none 0 0] hr hq0 hlB hbw (Nat.le_refl _);obtain ⟨f1, f2, f3, f4⟩ := F.out;have HF1 := hideIt f1;have HF2 := hideIt f2;have HF3 := hideIt (f3.base hBB);have HF4 := hideIt f4;have HGP : Hid (((w5.alloc (.cells #[.int .i64 0, .int .i64 0, .int .i64 0, .int .i64 0, .int .i64 0, .slice none 0 0, .int .i64 0, .int .i64 0, .int .i64 0, .slice none 0 0, .int .i64 0, .string ⟨#[]⟩, .slice none 0 0, .slice none 0 0] 38))).heap[w5.heap.size]? = some (.cells #[.int .i64 0, .int .i64 0, .int .i64 0, .int .i64 0, .int .i64 0, .slice none 0 0, .int .i64 0, .int .i64 0, .int .i64 0, .slice none 0 0, .int .i64 0, .string ⟨#[]⟩, .slice none 0 0, .slice none 0 0] 38 (0, 0))) := hideIt (heap_alloc_new w5 _);have HGQ : Hid ((((w5.alloc (.cells #[.int .i64 0, .int .i64 0, .int .i64 0, .int .i64 0, .int .i64 0, .slice none 0 0, .int .i64 0, .int .i64 0, .int .i64 0, .slice none 0 0, .int .i64 0, .string ⟨#[]⟩, .slice none 0 0, .slice none 0 0] 38))).setRow (w5.heap.size) #[.int .i64 X'.d.me, .int .i64 X'.d.n, .int .i64 X'.d.b.t, .int .i64 X'.d.b.v, .int .i64 X'.d.b.r, .slice X'.ba X'.d.b.l.length X'.bc, .int .i64 X'.d.ld, .int .i64 X'.d.L.bi, .int .i64 X'.d.L.bt, .slice X'.la X'.d.L.l.length X'.lc, .int .i64 X'.d.L.cm, .string X'.d.tx, .slice X'.na X'.d.nx.length X'.nc, .slice X'.ma X'.d.mt.length X'.mc]).heap[wr.heap.size]? = some (.cells #[.slice none 0 0, .slice none 0 0, .int .i64 0, .bool false] 46 (0, 0))) := hideIt ((setRow_other _ _ _ _ (by omega)).trans (blkK hq0 (below1 _ _)));have HBW : Hid (Below wr.heap.size wr (((w5.alloc (.cells #[.int .i64 0, .int .i64 0, .int .i64 0, .int .i64 0, .int .i64 0, .slice none 0 0, .int .i64 0, .int .i64 0, .int .i64 0, .slice none 0 0, .int .i64 0, .string ⟨#[]⟩, .slice none 0 0, .slice none 0 0] 38))).setRow (w5.heap.size) #[.int .i64 X'.d.me, .int .i64 X'.d.n, .int .i64 X'.d.b.t, .int .i64 X'.d.b.v, .int .i64 X'.d.b.r, .slice X'.ba X'.d.b.l.length X'.bc, .int .i64 X'.d.ld, .int .i64 X'.d.L.bi, .int .i64 X'.d.L.bt, .slice X'.la X'.d.L.l.length X'.lc, .int .i64 X'.d.L.cm, .string X'.d.tx, .slice X'.na X'.d.nx.length X'.nc, .slice X'.ma X'.d.mt.length X'.mc])) := hideIt (below_out (below_via hbw (below1 _ _)) (setRow_out _ (w5.heap.size) _) (fun k e => by omega));clear F f1 f2 f3 f4 hHeld;refine wpAnyH_ready (rs := [12]) (by kernel_rfl) (by simp) ?_;refine AllReadyH.cons (o := ⟨none, _, _, _, _, _⟩) rfl (fun Kx hK => ?_) AllReadyH.nil;refine step_store_rowK rfl 38 _ _ rfl (w5.heap.size) #[.int .i64 X'.d.me, .int .i64 X'.d.n, .int .i64 X'.d.b.t, .int .i64 X'.d.b.v, .int .i64 X'.d.b.r, .slice X'.ba X'.d.b.l.length X'.bc, .int .i64 X'.d.ld, .int .i64 X'.d.L.bi, .int .i64 X'.d.L.bt, .slice X'.la X'.d.L.l.length X'.lc, .int .i64 X'.d.L.cm, .string X'.d.tx, .slice X'.na X'.d.nx.length X'.nc, .slice X'.ma X'.d.mt.length X'.mc] rfl rfl 38 _ HGP.out (by kernel_rfl) (by rfl) (by simp [Value.oneCell']) ?_;refine hK.out _ _ (HSB.out _ HBW.out) (fun hHeld => ?_);clear hK Kx
         try simp only [aP, aQ, aA, aB, aC]
         refine wpAnyH_ready (rs := [13]) (by kernel_rfl) (by simp) ?_;refine AllReadyH.cons (o := ⟨none, _, _, _, _, _⟩) rfl (fun Kx hK => ?_) AllReadyH.nil;refine step_store_rowK rfl 46 _ _ rfl (wr.heap.size) #[.slice X'.ra X'.R.length X'.rc, .slice X'.qa X'.M.length X'.qc, .int .i64 X'.ix, .bool X'.wt] rfl rfl 46 _ HGQ.out (by kernel_rfl) (by rfl) (by simp [Value.oneCell']) ?_;refine hK.out _ _ (HSB.out _ HF4.out) (fun hHeld => ?_);clear hK Kx
         try simp only [aP, aQ, aA, aB, aC]
         refine wpAnyH_take (i := 14) (oi := ⟨some 10, _, _, _, _, _⟩) (v := ?_) rfl (by kernel_rfl) (by kernel_rfl) (by kernel_rfl) (fun _ _ _ h => h) (Or.inl ⟨by rfl, ?_⟩) (by assumption) ?_
         rotate_left
         ·intro w5 hSw
          (try dsimp only at hSw)
          go_simp
          (try with_reducible rfl)
         try simp only [aP, aQ, aA, aB, aC]
         refine wpAnyH_done (by kernel_rfl) ?_ _;clear hHeld
         go_wp2_with fail
         go_meet
         exact ⟨_, _, X', rfl, rfl, rfl, hideIt ⟨HF1.out, HF2.out, hv, HF3.out, HF4.out⟩⟩
       ·go_simp;refine hK.out _ _ (HSB.out _ (by first | exact (Below.refl _ _).drew | exact (below1 _ _).drew | exact below_via (Below.refl _ _).drew (below1 _ _) | exact (below_via (below1 _ _) (below1 _ _)).drew | exact below_via (below_via (Below.refl _ _).drew (below1 _ _)) (below1 _ _))) (fun hHeld => ?_);clear hK Kx
        try simp only [aP, aQ, aA, aB, aC]
        refine wpAnyH_ready (rs := [5]) (by kernel_rfl) (by simp) ?_;refine (AllReadyH.cons (o := ⟨some 48, _, _, _, _, _⟩) rfl (fun Kx hK => ?_) AllReadyH.nil)
        ·go_simp
         go_at_call 11
         refine (HCL.out _ (by first | exact (Below.refl _ _).drew | exact (below1 _ _).drew | exact below_via (Below.refl _ _).drew (below1 _ _) | exact (below_via (below1 _ _) (below1 _ _)).drew | exact below_via (below_via (Below.refl _ _).drew (below1 _ _)) (below1 _ _))).mono ?_;rintro r w5 ⟨X', rfl, hv, hr, hb⟩;have hbw : Below wr.heap.size wr w5 := below_via (by first | exact (Below.refl _ _).drew | exact (below1 _ _).drew | exact below_via (Below.refl _ _).drew (below1 _ _) | exact (below_via (below1 _ _) (below1 _ _)).drew | exact below_via (below_via (Below.refl _ _).drew (below1 _ _)) (below1 _ _)) hb;refine hK.out _ _ (HSB.out _ hbw) (fun hHeld => ?_);clear hK Kx
         try simp only [aP, aQ, aA, aB, aC]
         refine wpAnyH_take (i := 6) (oi := ⟨some 42, _, _, _, _, _⟩) (v := ?_) rfl (by kernel_rfl) (by kernel_rfl) (by kernel_rfl) (fun _ _ _ h => h) (Or.inl ⟨by rfl, ?_⟩) (by assumption) ?_
         rotate_left
         ·intro w5 hSw
          (try dsimp only at hSw)
          go_simp
          (try with_reducible rfl)
         try simp only [aP, aQ, aA, aB, aC]
         refine wpAnyH_take (i := 7) (oi := ⟨some 49, _, _, _, _, _⟩) (v := ?_) rfl (by kernel_rfl) (by kernel_rfl) (by kernel_rfl) (fun _ _ _ h => h) (Or.inl ⟨by rfl, ?_⟩) (by assumption) ?_
         rotate_left
         ·intro w5 hSw
          (try dsimp only at hSw)
          go_simp
          (try with_reducible rfl)
         try simp only [aP, aQ, aA, aB, aC]
         refine wpAnyH_take (i := 8) (oi := ⟨some 50, _, _, _, _, _⟩) (v := ?_) rfl (by kernel_rfl) (by kernel_rfl) (by kernel_rfl) (fun _ _ _ h => h) (Or.inl ⟨by rfl, ?_⟩) (by assumption) ?_
         rotate_left
         ·intro w5 hSw
          (try dsimp only at hSw)
          go_simp
          (try with_reducible rfl)
         try simp only [aP, aQ, aA, aB, aC]
         refine wpAnyH_take (i := 9) (oi := ⟨some 51, _, _, _, _, _⟩) (v := ?_) rfl (by kernel_rfl) (by kernel_rfl) (by kernel_rfl) (fun _ _ _ h => h) (Or.inl ⟨by rfl, ?_⟩) (by assumption) ?_
         rotate_left
         ·intro w5 hSw
          (try dsimp only at hSw)
          go_simp
          (try with_reducible rfl)
         try simp only [aP, aQ, aA, aB, aC]
         have hws : wr.heap.size ≤ w5.heap.size := hbw.size;have hlB : wr.heap.size < ((wr.alloc (.cells #[.slice none 0 0, .slice none 0 0, .int .i64 0, .bool false] 46)).alloc (.cells #[.int .i64 0, .int .i64 0, .int .i64 0, .int .i64 0, .int .i64 0, .slice none 0 0, .int .i64 0, .int .i64 0, .int .i64 0, .slice none 0 0, .int .i64 0, .string ⟨#[]⟩, .slice none 0 0, .slice none 0 0] 38)).drew.heap.size := show wr.heap.size < ((wr.alloc (.cells #[.slice none 0 0, .slice none 0 0, .int .i64 0, .bool false] 46)).alloc (.cells #[.int .i64 0, .int .i64 0, .int .i64 0, .int .i64 0, .int .i64 0, .slice none 0 0, .int .i64 0, .int .i64 0, .int .i64 0, .slice none 0 0, .int .i64 0, .string ⟨#[]⟩, .slice none 0 0, .slice none 0 0] 38)).heap.size by first | (simp; done) | (simp; omega)
         have hlt5 : wr.heap.size < w5.heap.size := Nat.lt_of_lt_of_le hlB hb.size;have hlB1 : wr.heap.size + 1 < ((wr.alloc (.cells #[.slice none 0 0, .slice none 0 0, .int .i64 0, .bool false] 46)).alloc (.cells #[.int .i64 0, .int .i64 0, .int .i64 0, .int .i64 0, .int .i64 0, .slice none 0 0, .int .i64 0, .int .i64 0, .int .i64 0, .slice none 0 0, .int .i64 0, .string ⟨#[]⟩, .slice none 0 0, .slice none 0 0] 38)).drew.heap.size := show wr.heap.size + 1 < ((wr.alloc (.cells #[.slice none 0 0, .slice none 0 0, .int .i64 0, .bool false] 46)).alloc (.cells #[.int .i64 0, .int .i64 0, .int .i64 0, .int .i64 0, .int .i64 0, .slice none 0 0, .int .i64 0, .int .i64 0, .int .i64 0, .slice none 0 0, .int .i64 0, .string ⟨#[]⟩, .slice none 0 0, .slice none 0 0] 38)).heap.size by first | (simp; done) | (simp; omega)
         have hBB : wr.heap.size ≤ ((wr.alloc (.cells #[.slice none 0 0, .slice none 0 0, .int .i64 0, .bool false] 46)).alloc (.cells #[.int .i64 0, .int .i64 0, .int .i64 0, .int .i64 0, .int .i64 0, .slice none 0 0, .int .i64 0, .int .i64 0, .int .i64 0, .slice none 0 0, .int .i64 0, .string ⟨#[]⟩, .slice none 0 0, .slice none 0 0] 38)).drew.heap.size := Nat.le_of_lt hlB;have hq0 : w5.heap[wr.heap.size]? = some (.cells #[.slice none 0 0, .slice none 0 0, .int .i64 0, .bool false] 46 (0, 0)) := blkK (w := ((wr.alloc (.cells #[.slice none 0 0, .slice none 0 0, .int .i64 0, .bool false] 46)).alloc (.cells #[.int .i64 0, .int .i64 0, .int .i64 0, .int .i64 0, .int .i64 0, .slice none 0 0, .int .i64 0, .int .i64 0, .int .i64 0, .slice none 0 0, .int .i64 0, .string ⟨#[]⟩, .slice none 0 0, .slice none 0 0] 38)).drew) (blkK (heap_alloc_new wr _) (below1 _ _).drew) hb;have hp0 : w5.heap[wr.heap.size + 1]? = some (.cells #[.int .i64 0, .int .i64 0, .int .i64 0, .int .i64 0, .int .i64 0, .slice none 0 0, .int .i64 0, .int .i64 0, .int .i64 0, .slice none 0 0, .int .i64 0, .string ⟨#[]⟩, .slice none 0 0, .slice none 0 0] 38 (0, 0)) := blkK (w := ((wr.alloc (.cells #[.slice none 0 0, .slice none 0 0, .int .i64 0, .bool false] 46)).alloc (.cells #[.int .i64 0, .int .i64 0, .int .i64 0, .int .i64 0, .int .i64 0, .slice none 0 0, .int .i64 0, .int .i64 0, .int .i64 0, .slice none 0 0, .int .i64 0, .string ⟨#[]⟩, .slice none 0 0, .slice none 0 0] 38)).drew) (alloc2_new _ _ _ _) hb;have F := two_old (V := wr) (w5 := w5) #[.int .i64 X'.d.me, .int .i64 X'.d.n, .int .i64 X'.d.b.t, .int .i64 X'.d.b.v, .int .i64 X'.d.b.r, .slice X'.ba X'.d.b.l.length X'.bc, .int .i64 X'.d.ld, .int .i64 X'.d.L.bi, .int .i64 X'.d.L.bt, .slice X'.la X'.d.L.l.length X'.lc, .int .i64 X'.d.L.cm, .string X'.d.tx, .slice X'.na X'.d.nx.length X'.nc, .slice X'.ma X'.d.mt.length X'.mc] #[.slice X'.ra X'.R.length X'.rc, .slice X'.qa X'.M.length X'.qc, .int .i64 X'.ix, .bool X'.wt] hr hp0 hq0 (by omega) hlB1 hlB hbw (Nat.le_succ _) (Nat.le_refl _);obtain ⟨f1, f2, f3, f4⟩ := F.out;have HF1 := hideIt f1;have HF2 := hideIt f2;have HF3 := hideIt (f3.base hBB);have HF4 := hideIt f4;have HGP : Hid ((w5).heap[wr.heap.size + 1]? = some (.cells #[.int .i64 0, .int .i64 0, .int .i64 0, .int .i64 0, .int .i64 0, .slice none 0 0, .int .i64 0, .int .i64 0, .int .i64 0, .slice none 0 0, .int .i64 0, .string ⟨#[]⟩, .slice none 0 0, .slice none 0 0] 38 (0, 0))) := hideIt (hp0);have HGQ : Hid (((w5).setRow (wr.heap.size + 1) #[.int .i64 X'.d.me, .int .i64 X'.d.n, .int .i64 X'.d.b.t, .int .i64 X'.d.b.v, .int .i64 X'.d.b.r, .slice X'.ba X'.d.b.l.length X'.bc, .int .i64 X'.d.ld, .int .i64 X'.d.L.bi, .int .i64 X'.d.L.bt, .slice X'.la X'.d.L.l.length X'.lc, .int .i64 X'.d.L.cm, .string X'.d.tx, .slice X'.na X'.d.nx.length X'.nc, .slice X'.ma X'.d.mt.length X'.mc]).heap[wr.heap.size]? = some (.cells #[.slice none 0 0, .slice none 0 0, .int .i64 0, .bool false] 46 (0, 0))) := hideIt ((setRow_other _ _ _ _ (by omega)).trans (hq0));have HBW : Hid (Below wr.heap.size wr ((w5).setRow (wr.heap.size + 1) #[.int .i64 X'.d.me, .int .i64 X'.d.n, .int .i64 X'.d.b.t, .int .i64 X'.d.b.v, .int .i64 X'.d.b.r, .slice X'.ba X'.d.b.l.length X'.bc, .int .i64 X'.d.ld, .int .i64 X'.d.L.bi, .int .i64 X'.d.L.bt, .slice X'.la X'.d.L.l.length X'.lc, .int .i64 X'.d.L.cm, .string X'.d.tx, .slice X'.na X'.d.nx.length X'.nc, .slice X'.ma X'.d.mt.length X'.mc])) := hideIt (below_out (hbw) (setRow_out _ (wr.heap.size + 1) _) (fun k e => by omega));clear F f1 f2 f3 f4 hHeld;refine wpAnyH_ready (rs := [12]) (by kernel_rfl) (by simp) ?_;refine AllReadyH.cons (o := ⟨none, _, _, _, _, _⟩) rfl (fun Kx hK => ?_) AllReadyH.nil;refine step_store_rowK rfl 38 _ _ rfl (wr.heap.size + 1) #[.int .i64 X'.d.me, .int .i64 X'.d.n, .int .i64 X'.d.b.t, .int .i64 X'.d.b.v, .int .i64 X'.d.b.r, .slice X'.ba X'.d.b.l.length X'.bc, .int .i64 X'.d.ld, .int .i64 X'.d.L.bi, .int .i64 X'.d.L.bt, .slice X'.la X'.d.L.l.length X'.lc, .int .i64 X'.d.L.cm, .string X'.d.tx, .slice X'.na X'.d.nx.length X'.nc, .slice X'.ma X'.d.mt.length X'.mc] rfl rfl 38 _ HGP.out (by kernel_rfl) (by rfl) (by simp [Value.oneCell']) ?_;refine hK.out _ _ (HSB.out _ HBW.out) (fun hHeld => ?_);clear hK Kx
         try simp only [aP, aQ, aA, aB, aC]
         refine wpAnyH_ready (rs := [13]) (by kernel_rfl) (by simp) ?_;refine AllReadyH.cons (o := ⟨none, _, _, _, _, _⟩) rfl (fun Kx hK => ?_) AllReadyH.nil;refine step_store_rowK rfl 46 _ _ rfl (wr.heap.size) #[.slice X'.ra X'.R.length X'.rc, .slice X'.qa X'.M.length X'.qc, .int .i64 X'.ix, .bool X'.wt] rfl rfl 46 _ HGQ.out (by kernel_rfl) (by rfl) (by simp [Value.oneCell']) ?_;refine hK.out _ _ (HSB.out _ HF4.out) (fun hHeld => ?_);clear hK Kx
         try simp only [aP, aQ, aA, aB, aC]
         refine wpAnyH_take (i := 14) (oi := ⟨some 10, _, _, _, _, _⟩) (v := ?_) rfl (by kernel_rfl) (by kernel_rfl) (by kernel_rfl) (fun _ _ _ h => h) (Or.inl ⟨by rfl, ?_⟩) (by assumption) ?_
         rotate_left
         ·intro w5 hSw
          (try dsimp only at hSw)
          go_simp
          (try with_reducible rfl)
         try simp only [aP, aQ, aA, aB, aC]
         refine wpAnyH_done (by kernel_rfl) ?_ _;clear hHeld
         go_wp2_with fail
         go_meet
         exact ⟨_, _, X', rfl, rfl, rfl, hideIt ⟨HF1.out, HF2.out, hv, HF3.out, HF4.out⟩⟩
     case rest =>
      obtain ⟨p, q, X', rfl, rfl, rfl, HC⟩ := hcut;clear HCL
      by_cases hs : (stepN d x.e).2 = 0
      ·obtain ⟨hfw, hI2⟩ := step_go HHI.out hs;obtain ⟨c1, c2, c3, c4, c5⟩ := HC.out;have hD : (stepN d x.e).1.d = X'.d := by rw [← c3]; rfl
       rw [hD] at hfw hI2;have HFW := hideIt hfw;have HI2 := hideIt hI2;have HP1 := hideIt c1;have HQ1 := hideIt c2;have HV1 := hideIt c3;have HR1 := hideIt c4;have HB5 := hideIt c5;have HME : Hid (X'.d.me = me ∧ X'.d.n = n) := hideIt ⟨hfw.me.trans HMN.out.1, hfw.n.trans HMN.out.2⟩;have HBZ := hideIt (blkK HBX.out c5);have HNZ := hideIt (HSB.out _ c5).1;have hwz : wr.heap.size ≤ wc.heap.size := c5.size;clear c1 c2 c3 c4 c5 HC hfw hI2 hD HFW;have HEV := hideIt (HSB.out _ HB5.out).2;have HAG := hideIt (fun h1 h2 => again_step (e := x.e) HHI.out hs h1 h2);obtain ⟨⟨m0, m1, m2, m3, m4, m5, m6, m7, m8, m9, m10, m11, m12, m13⟩, mf, mz⟩ := at14 HP1.out;have e0 := HEV.out.c0;have e3 := HEV.out.c3;rw [hs]
       by_cases hk1 : x.e.kind = 3 ∧ x.e.m.kind = 3
       ·obtain ⟨hk1, hk2⟩ := hk1;have hag := HAG.out hk1 hk2;rw [show (stepN d x.e).1.d = X'.d by rw [← HV1.out]; rfl, ← HV1.out] at hag
        have HAH := hideIt hag;have HSC : Hid (∀ W, Below wc.heap.size wc W → W.heap[p]? = some (.cells #[.int .i64 X'.d.me, .int .i64 X'.d.n, .int .i64 X'.d.b.t, .int .i64 X'.d.b.v, .int .i64 X'.d.b.r, .slice X'.ba X'.d.b.l.length X'.bc, .int .i64 X'.d.ld, .int .i64 X'.d.L.bi, .int .i64 X'.d.L.bt, .slice X'.la X'.d.L.l.length X'.lc, .int .i64 X'.d.L.cm, .string X'.d.tx, .slice X'.na X'.d.nx.length X'.nc, .slice X'.ma X'.d.mt.length X'.mc] 38 (0, 0)) ∧ EvAt W eb (off + t * 16) x) := hideIt (fun W hW => ⟨blkK HP1.out hW, HEV.out.keep hW⟩);have HCM : Hid (∀ W, Below wc.heap.size wc W → Calls Tryz.prog 11 #[.agg #[.int .i64 X'.d.me, .int .i64 X'.d.n, .int .i64 X'.d.b.t, .int .i64 X'.d.b.v, .int .i64 X'.d.b.r, .slice X'.ba X'.d.b.l.length X'.bc, .int .i64 X'.d.ld, .int .i64 X'.d.L.bi, .int .i64 X'.d.L.bt, .slice X'.la X'.d.L.l.length X'.lc, .int .i64 X'.d.L.cm, .string X'.d.tx, .slice X'.na X'.d.nx.length X'.nc, .slice X'.ma X'.d.mt.length X'.mc], .agg #[.int .i64 x.e.kind, .int .i64 x.e.idx, .string x.e.tx, .int .i64 x.e.m.kind, .int .i64 x.e.m.frm, .int .i64 x.e.m.dst, .int .i64 x.e.m.term, .int .i64 x.e.m.pi, .int .i64 x.e.m.pt, .slice x.a x.e.m.es.length x.c, .int .i64 x.e.m.cm, .bool x.e.m.ok, .int .i64 x.e.m.mtch, .int .i64 x.e.m.si, .int .i64 x.e.m.st, .string x.e.m.tx]] W fun r w' => ∃ X2 : WkX, r = .returned (.tuple #[.agg #[.int .i64 X2.d.me, .int .i64 X2.d.n, .int .i64 X2.d.b.t, .int .i64 X2.d.b.v, .int .i64 X2.d.b.r, .slice X2.ba X2.d.b.l.length X2.bc, .int .i64 X2.d.ld, .int .i64 X2.d.L.bi, .int .i64 X2.d.L.bt, .slice X2.la X2.d.L.l.length X2.lc, .int .i64 X2.d.L.cm, .string X2.d.tx, .slice X2.na X2.d.nx.length X2.nc, .slice X2.ma X2.d.mt.length X2.mc], .agg #[.slice X2.ra X2.R.length X2.rc, .slice X2.qa X2.M.length X2.qc, .int .i64 X2.ix, .bool X2.wt], .int .i64 (stepN X'.d x.e).2]) ∧ X2.v = (stepN X'.d x.e).1 ∧ WR W.heap.size w' X2 ∧ Below W.heap.size W w') := hideIt (fun W hW => stepK_is X'.d X'.gb X'.gl X'.gn X'.gm x.e x.a x.c W (HR1.out.keep hW).node (HEV.out.keep hW).es HI2.out HEK.out);rw [hk1] at e0;rw [hk2] at e3;clear hag HAG hk1 hk2
        go_upto_region 11 with fail
        clear m0 m1 m2 m3 m4 m5 m6 m7 m8 m9 m10 m11 m12 m13 mf mz e0 e3
        go_cut [12, 13, 14] from 70 to 79 (fun a b c wy => ∃ p2 q2 X2, a = .pointer (some ⟨p2, 0, none⟩) ∧ b = .pointer (some ⟨q2, 0, none⟩) ∧ c = .int .i64 (stepN X'.d x.e).2 ∧ Hid (wy.heap[p2]? = some (.cells #[.int .i64 X2.d.me, .int .i64 X2.d.n, .int .i64 X2.d.b.t, .int .i64 X2.d.b.v, .int .i64 X2.d.b.r, .slice X2.ba X2.d.b.l.length X2.bc, .int .i64 X2.d.ld, .int .i64 X2.d.L.bi, .int .i64 X2.d.L.bt, .slice X2.la X2.d.L.l.length X2.lc, .int .i64 X2.d.L.cm, .string X2.d.tx, .slice X2.na X2.d.nx.length X2.nc, .slice X2.ma X2.d.mt.length X2.mc] 38 (0, 0)) ∧ wy.heap[q2]? = some (.cells #[.slice X2.ra X2.R.length X2.rc, .slice X2.qa X2.M.length X2.qc, .int .i64 X2.ix, .bool X2.wt] 46 (0, 0)) ∧ X2.v = (stepN X'.d x.e).1 ∧ WR wc.heap.size wy X2 ∧ Below wc.heap.size wc wy))
        case first =>
         refine wp_region_held_drew (S := fun W => W.heap[p]? = some (.cells #[.int .i64 X'.d.me, .int .i64 X'.d.n, .int .i64 X'.d.b.t, .int .i64 X'.d.b.v, .int .i64 X'.d.b.r, .slice X'.ba X'.d.b.l.length X'.bc, .int .i64 X'.d.ld, .int .i64 X'.d.L.bi, .int .i64 X'.d.L.bt, .slice X'.la X'.d.L.l.length X'.lc, .int .i64 X'.d.L.cm, .string X'.d.tx, .slice X'.na X'.d.nx.length X'.nc, .slice X'.ma X'.d.mt.length X'.mc] 38 (0, 0)) ∧ EvAt W eb (off + t * 16) x) (by rfl) (HSC.out _ (Below.refl _ _).drew) (fun hHeld => ?_);refine wpAnyH_take (i := 0) (oi := ⟨some 71, _, _, _, _, _⟩) (v := ?_) rfl (by kernel_rfl) (by kernel_rfl) (by kernel_rfl) (fun _ _ _ h => h) (Or.inl ⟨by rfl, ?_⟩) (by assumption) ?_
         rotate_left
         ·intro w5 hSw;obtain ⟨⟨d0, d1, d2, d3, d4, d5, d6, d7, d8, d9, d10, d11, d12, d13⟩, df, dz⟩ := at14 hSw.1;go_simp
          (try with_reducible rfl)
         try simp only [aP, aQ, aA, aB, aC]
         refine wpAnyH_take (i := 1) (oi := ⟨some 72, _, _, _, _, _⟩) (v := ?_) rfl (by kernel_rfl) (by kernel_rfl) (by kernel_rfl) (fun _ _ _ h => h) (Or.inl ⟨by rfl, ?_⟩) (by assumption) ?_
         rotate_left
         ·intro w5 hSw
          (try dsimp only at hSw)
          go_simp
          (try with_reducible rfl)
         try simp only [aP, aQ, aA, aB, aC]
         refine wpAnyH_take (i := 2) (oi := ⟨some 73, _, _, _, _, _⟩) (v := ?_) rfl (by kernel_rfl) (by kernel_rfl) (by kernel_rfl) (fun _ _ _ h => h) (Or.inl ⟨by rfl, ?_⟩) (by assumption) ?_
         rotate_left
         ·intro w5 hSw
          (try dsimp only at hSw)
          go_simp
          (try with_reducible rfl)
         try simp only [aP, aQ, aA, aB, aC]
         refine wpAnyH_take (i := 3) (oi := ⟨some 74, _, _, _, _, _⟩) (v := ?_) rfl (by kernel_rfl) (by kernel_rfl) (by kernel_rfl) (fun _ _ _ h => h) (Or.inl ⟨by rfl, ?_⟩) (by assumption) ?_
         rotate_left
         ·intro w5 hSw
          (try dsimp only at hSw)
          go_simp
          (try with_reducible rfl)
         try simp only [aP, aQ, aA, aB, aC]
         refine wpAnyH_take (i := 4) (oi := ⟨some 75, _, _, _, _, _⟩) (v := ?_) rfl (by kernel_rfl) (by kernel_rfl) (by kernel_rfl) (fun _ _ _ h => h) (Or.inl ⟨by rfl, ?_⟩) (by assumption) ?_
         rotate_left
         ·intro w5 hSw;have c0 := hSw.2.c0; have c1 := hSw.2.c1; have c2 := hSw.2.c2; have c3 := hSw.2.c3; have c4 := hSw.2.c4; have c5 := hSw.2.c5; have c6 := hSw.2.c6; have c7 := hSw.2.c7; have c8 := hSw.2.c8; have c9 := hSw.2.c9; have c10 := hSw.2.c10; have c11 := hSw.2.c11; have c12 := hSw.2.c12; have c13 := hSw.2.c13; have c14 := hSw.2.c14; have c15 := hSw.2.c15
          go_simp
          (try with_reducible rfl)
         try simp only [aP, aQ, aA, aB, aC]
         refine wpAnyH_ready (rs := [5, 10, 11]) (by kernel_rfl) (by simp) ?_;refine (AllReadyH.cons (o := ⟨some 76, _, _, _, _, _⟩) rfl (fun Kx hK => ?_) (AllReadyH.cons (o := ⟨some 12, _, _, _, _, _⟩) rfl (fun Kx hK => ?_) (AllReadyH.cons (o := ⟨some 13, _, _, _, _, _⟩) rfl (fun Kx hK => ?_) AllReadyH.nil)))
         ·go_simp
          go_at_call 11
          refine (HCM.out _ (by first | exact (Below.refl _ _).drew | exact (below1 _ _).drew | exact below_via (Below.refl _ _).drew (below1 _ _) | exact (below_via (below1 _ _) (below1 _ _)).drew | exact below_via (below_via (Below.refl _ _).drew (below1 _ _)) (below1 _ _))).mono ?_;rintro r w5 ⟨X2, rfl, hv, hr, hb⟩;have hbw : Below wc.heap.size wc w5 := below_via (by first | exact (Below.refl _ _).drew | exact (below1 _ _).drew | exact below_via (Below.refl _ _).drew (below1 _ _) | exact (below_via (below1 _ _) (below1 _ _)).drew | exact below_via (below_via (Below.refl _ _).drew (below1 _ _)) (below1 _ _)) hb;refine hK.out _ _ (HSC.out _ hbw) (fun hHeld => ?_);clear hK Kx
          try simp only [aP, aQ, aA, aB, aC]
          refine wpAnyH_take (i := 6) (oi := ⟨some 70, _, _, _, _, _⟩) (v := ?_) rfl (by kernel_rfl) (by kernel_rfl) (by kernel_rfl) (fun _ _ _ h => h) (Or.inl ⟨by rfl, ?_⟩) (by assumption) ?_
          rotate_left
          ·intro w5 hSw
           (try dsimp only at hSw)
           go_simp
           (try with_reducible rfl)
          try simp only [aP, aQ, aA, aB, aC]
          refine wpAnyH_take (i := 7) (oi := ⟨some 77, _, _, _, _, _⟩) (v := ?_) rfl (by kernel_rfl) (by kernel_rfl) (by kernel_rfl) (fun _ _ _ h => h) (Or.inl ⟨by rfl, ?_⟩) (by assumption) ?_
          rotate_left
          ·intro w5 hSw
           (try dsimp only at hSw)
           go_simp
           (try with_reducible rfl)
          try simp only [aP, aQ, aA, aB, aC]
          refine wpAnyH_take (i := 8) (oi := ⟨some 78, _, _, _, _, _⟩) (v := ?_) rfl (by kernel_rfl) (by kernel_rfl) (by kernel_rfl) (fun _ _ _ h => h) (Or.inl ⟨by rfl, ?_⟩) (by assumption) ?_
          rotate_left
          ·intro w5 hSw
           (try dsimp only at hSw)
           go_simp
           (try with_reducible rfl)
          try simp only [aP, aQ, aA, aB, aC]
          refine wpAnyH_take (i := 9) (oi := ⟨some 79, _, _, _, _, _⟩) (v := ?_) rfl (by kernel_rfl) (by kernel_rfl) (by kernel_rfl) (fun _ _ _ h => h) (Or.inl ⟨by rfl, ?_⟩) (by assumption) ?_
          rotate_left
          ·intro w5 hSw
           (try dsimp only at hSw)
           go_simp
           (try with_reducible rfl)
          try simp only [aP, aQ, aA, aB, aC]
          refine wpAnyH_ready (rs := [10, 11]) (by kernel_rfl) (by simp) ?_;refine (AllReadyH.cons (o := ⟨some 12, _, _, _, _, _⟩) rfl (fun Kx hK => ?_) (AllReadyH.cons (o := ⟨some 13, _, _, _, _, _⟩) rfl (fun Kx hK => ?_) AllReadyH.nil))
          ·go_simp;refine hK.out _ _ (HSC.out _ (below_via hbw (below1 _ _))) (fun hHeld => ?_);clear hK Kx
           try simp only [aP, aQ, aA, aB, aC]
           refine wpAnyH_ready (rs := [11]) (by kernel_rfl) (by simp) ?_;refine (AllReadyH.cons (o := ⟨some 13, _, _, _, _, _⟩) rfl (fun Kx hK => ?_) AllReadyH.nil)
           ·go_simp;refine hK.out _ _ (HSC.out _ (below_via (below_via hbw (below1 _ _)) (below1 _ _))) (fun hHeld => ?_);clear hK Kx
            try simp only [aP, aQ, aA, aB, aC]
            have hws : wc.heap.size ≤ w5.heap.size := hbw.size;have hBB : wc.heap.size ≤ wc.drew.heap.size := Nat.le_refl _;have F := two_new (V := wc) (w5 := w5) #[.int .i64 X2.d.me, .int .i64 X2.d.n, .int .i64 X2.d.b.t, .int .i64 X2.d.b.v, .int .i64 X2.d.b.r, .slice X2.ba X2.d.b.l.length X2.bc, .int .i64 X2.d.ld, .int .i64 X2.d.L.bi, .int .i64 X2.d.L.bt, .slice X2.la X2.d.L.l.length X2.lc, .int .i64 X2.d.L.cm, .string X2.d.tx, .slice X2.na X2.d.nx.length X2.nc, .slice X2.ma X2.d.mt.length X2.mc] #[.slice X2.ra X2.R.length X2.rc, .slice X2.qa X2.M.length X2.qc, .int .i64 X2.ix, .bool X2.wt] #[.int .i64 0, .int .i64 0, .int .i64 0, .int .i64 0, .int .i64 0, .slice none 0 0, .int .i64 0, .int .i64 0, .int .i64 0, .slice none 0 0, .int .i64 0, .string ⟨#[]⟩, .slice none 0 0, .slice none 0 0] #[.slice none 0 0, .slice none 0 0, .int .i64 0, .bool false] hr hbw;obtain ⟨f1, f2, f3, f4⟩ := F.out;have HF1 := hideIt f1;have HF2 := hideIt f2;have HF3 := hideIt (f3.base hBB);have HF4 := hideIt f4;have HGP : Hid ((((w5.alloc (.cells #[.int .i64 0, .int .i64 0, .int .i64 0, .int .i64 0, .int .i64 0, .slice none 0 0, .int .i64 0, .int .i64 0, .int .i64 0, .slice none 0 0, .int .i64 0, .string ⟨#[]⟩, .slice none 0 0, .slice none 0 0] 38)).alloc (.cells #[.slice none 0 0, .slice none 0 0, .int .i64 0, .bool false] 46))).heap[w5.heap.size]? = some (.cells #[.int .i64 0, .int .i64 0, .int .i64 0, .int .i64 0, .int .i64 0, .slice none 0 0, .int .i64 0, .int .i64 0, .int .i64 0, .slice none 0 0, .int .i64 0, .string ⟨#[]⟩, .slice none 0 0, .slice none 0 0] 38 (0, 0))) := hideIt (blkK (heap_alloc_new w5 _) (below1 _ _));have HGQ : Hid (((((w5.alloc (.cells #[.int .i64 0, .int .i64 0, .int .i64 0, .int .i64 0, .int .i64 0, .slice none 0 0, .int .i64 0, .int .i64 0, .int .i64 0, .slice none 0 0, .int .i64 0, .string ⟨#[]⟩, .slice none 0 0, .slice none 0 0] 38)).alloc (.cells #[.slice none 0 0, .slice none 0 0, .int .i64 0, .bool false] 46))).setRow (w5.heap.size) #[.int .i64 X2.d.me, .int .i64 X2.d.n, .int .i64 X2.d.b.t, .int .i64 X2.d.b.v, .int .i64 X2.d.b.r, .slice X2.ba X2.d.b.l.length X2.bc, .int .i64 X2.d.ld, .int .i64 X2.d.L.bi, .int .i64 X2.d.L.bt, .slice X2.la X2.d.L.l.length X2.lc, .int .i64 X2.d.L.cm, .string X2.d.tx, .slice X2.na X2.d.nx.length X2.nc, .slice X2.ma X2.d.mt.length X2.mc]).heap[w5.heap.size + 1]? = some (.cells #[.slice none 0 0, .slice none 0 0, .int .i64 0, .bool false] 46 (0, 0))) := hideIt ((setRow_other _ _ _ _ (by omega)).trans (alloc2_new _ _ _ _));have HBW : Hid (Below wc.heap.size wc ((((w5.alloc (.cells #[.int .i64 0, .int .i64 0, .int .i64 0, .int .i64 0, .int .i64 0, .slice none 0 0, .int .i64 0, .int .i64 0, .int .i64 0, .slice none 0 0, .int .i64 0, .string ⟨#[]⟩, .slice none 0 0, .slice none 0 0] 38)).alloc (.cells #[.slice none 0 0, .slice none 0 0, .int .i64 0, .bool false] 46))).setRow (w5.heap.size) #[.int .i64 X2.d.me, .int .i64 X2.d.n, .int .i64 X2.d.b.t, .int .i64 X2.d.b.v, .int .i64 X2.d.b.r, .slice X2.ba X2.d.b.l.length X2.bc, .int .i64 X2.d.ld, .int .i64 X2.d.L.bi, .int .i64 X2.d.L.bt, .slice X2.la X2.d.L.l.length X2.lc, .int .i64 X2.d.L.cm, .string X2.d.tx, .slice X2.na X2.d.nx.length X2.nc, .slice X2.ma X2.d.mt.length X2.mc])) := hideIt (below_out (below_via (below_via hbw (below1 _ _)) (below1 _ _)) (setRow_out _ (w5.heap.size) _) (fun k e => by omega));clear F f1 f2 f3 f4 hHeld;refine wpAnyH_ready (rs := [12]) (by kernel_rfl) (by simp) ?_;refine AllReadyH.cons (o := ⟨none, _, _, _, _, _⟩) rfl (fun Kx hK => ?_) AllReadyH.nil;refine step_store_rowK rfl 38 _ _ rfl (w5.heap.size) #[.int .i64 X2.d.me, .int .i64 X2.d.n, .int .i64 X2.d.b.t, .int .i64 X2.d.b.v, .int .i64 X2.d.b.r, .slice X2.ba X2.d.b.l.length X2.bc, .int .i64 X2.d.ld, .int .i64 X2.d.L.bi, .int .i64 X2.d.L.bt, .slice X2.la X2.d.L.l.length X2.lc, .int .i64 X2.d.L.cm, .string X2.d.tx, .slice X2.na X2.d.nx.length X2.nc, .slice X2.ma X2.d.mt.length X2.mc] rfl rfl 38 _ HGP.out (by kernel_rfl) (by rfl) (by simp [Value.oneCell']) ?_;refine hK.out _ _ (HSC.out _ HBW.out) (fun hHeld => ?_);clear hK Kx
            try simp only [aP, aQ, aA, aB, aC]
            refine wpAnyH_ready (rs := [13]) (by kernel_rfl) (by simp) ?_;refine AllReadyH.cons (o := ⟨none, _, _, _, _, _⟩) rfl (fun Kx hK => ?_) AllReadyH.nil;refine step_store_rowK rfl 46 _ _ rfl (w5.heap.size + 1) #[.slice X2.ra X2.R.length X2.rc, .slice X2.qa X2.M.length X2.qc, .int .i64 X2.ix, .bool X2.wt] rfl rfl 46 _ HGQ.out (by kernel_rfl) (by rfl) (by simp [Value.oneCell']) ?_;refine hK.out _ _ (HSC.out _ HF4.out) (fun hHeld => ?_);clear hK Kx
            try simp only [aP, aQ, aA, aB, aC]
            refine wpAnyH_take (i := 14) (oi := ⟨some 14, _, _, _, _, _⟩) (v := ?_) rfl (by kernel_rfl) (by kernel_rfl) (by kernel_rfl) (fun _ _ _ h => h) (Or.inl ⟨by rfl, ?_⟩) (by assumption) ?_
            rotate_left
            ·intro w5 hSw
             (try dsimp only at hSw)
             go_simp
             (try with_reducible rfl)
            try simp only [aP, aQ, aA, aB, aC]
            refine wpAnyH_done (by kernel_rfl) ?_ _;clear hHeld
            go_wp2_with fail
            go_meet
            exact ⟨_, _, X2, rfl, rfl, rfl, hideIt ⟨HF1.out, HF2.out, hv, HF3.out, HF4.out⟩⟩
          ·go_simp;refine hK.out _ _ (HSC.out _ (below_via hbw (below1 _ _))) (fun hHeld => ?_);clear hK Kx
           try simp only [aP, aQ, aA, aB, aC]
           refine wpAnyH_ready (rs := [10]) (by kernel_rfl) (by simp) ?_;refine (AllReadyH.cons (o := ⟨some 12, _, _, _, _, _⟩) rfl (fun Kx hK => ?_) AllReadyH.nil)
           ·go_simp;refine hK.out _ _ (HSC.out _ (below_via (below_via hbw (below1 _ _)) (below1 _ _))) (fun hHeld => ?_);clear hK Kx
            try simp only [aP, aQ, aA, aB, aC]
            have hws : wc.heap.size ≤ w5.heap.size := hbw.size;have hBB : wc.heap.size ≤ wc.drew.heap.size := Nat.le_refl _;have F := two_wen (V := wc) (w5 := w5) #[.int .i64 X2.d.me, .int .i64 X2.d.n, .int .i64 X2.d.b.t, .int .i64 X2.d.b.v, .int .i64 X2.d.b.r, .slice X2.ba X2.d.b.l.length X2.bc, .int .i64 X2.d.ld, .int .i64 X2.d.L.bi, .int .i64 X2.d.L.bt, .slice X2.la X2.d.L.l.length X2.lc, .int .i64 X2.d.L.cm, .string X2.d.tx, .slice X2.na X2.d.nx.length X2.nc, .slice X2.ma X2.d.mt.length X2.mc] #[.slice X2.ra X2.R.length X2.rc, .slice X2.qa X2.M.length X2.qc, .int .i64 X2.ix, .bool X2.wt] #[.int .i64 0, .int .i64 0, .int .i64 0, .int .i64 0, .int .i64 0, .slice none 0 0, .int .i64 0, .int .i64 0, .int .i64 0, .slice none 0 0, .int .i64 0, .string ⟨#[]⟩, .slice none 0 0, .slice none 0 0] #[.slice none 0 0, .slice none 0 0, .int .i64 0, .bool false] hr hbw;obtain ⟨f1, f2, f3, f4⟩ := F.out;have HF1 := hideIt f1;have HF2 := hideIt f2;have HF3 := hideIt (f3.base hBB);have HF4 := hideIt f4;have HGP : Hid ((((w5.alloc (.cells #[.slice none 0 0, .slice none 0 0, .int .i64 0, .bool false] 46)).alloc (.cells #[.int .i64 0, .int .i64 0, .int .i64 0, .int .i64 0, .int .i64 0, .slice none 0 0, .int .i64 0, .int .i64 0, .int .i64 0, .slice none 0 0, .int .i64 0, .string ⟨#[]⟩, .slice none 0 0, .slice none 0 0] 38))).heap[w5.heap.size + 1]? = some (.cells #[.int .i64 0, .int .i64 0, .int .i64 0, .int .i64 0, .int .i64 0, .slice none 0 0, .int .i64 0, .int .i64 0, .int .i64 0, .slice none 0 0, .int .i64 0, .string ⟨#[]⟩, .slice none 0 0, .slice none 0 0] 38 (0, 0))) := hideIt (alloc2_new _ _ _ _);have HGQ : Hid (((((w5.alloc (.cells #[.slice none 0 0, .slice none 0 0, .int .i64 0, .bool false] 46)).alloc (.cells #[.int .i64 0, .int .i64 0, .int .i64 0, .int .i64 0, .int .i64 0, .slice none 0 0, .int .i64 0, .int .i64 0, .int .i64 0, .slice none 0 0, .int .i64 0, .string ⟨#[]⟩, .slice none 0 0, .slice none 0 0] 38))).setRow (w5.heap.size + 1) #[.int .i64 X2.d.me, .int .i64 X2.d.n, .int .i64 X2.d.b.t, .int .i64 X2.d.b.v, .int .i64 X2.d.b.r, .slice X2.ba X2.d.b.l.length X2.bc, .int .i64 X2.d.ld, .int .i64 X2.d.L.bi, .int .i64 X2.d.L.bt, .slice X2.la X2.d.L.l.length X2.lc, .int .i64 X2.d.L.cm, .string X2.d.tx, .slice X2.na X2.d.nx.length X2.nc, .slice X2.ma X2.d.mt.length X2.mc]).heap[w5.heap.size]? = some (.cells #[.slice none 0 0, .slice none 0 0, .int .i64 0, .bool false] 46 (0, 0))) := hideIt ((setRow_other _ _ _ _ (by omega)).trans (blkK (heap_alloc_new w5 _) (below1 _ _)));have HBW : Hid (Below wc.heap.size wc ((((w5.alloc (.cells #[.slice none 0 0, .slice none 0 0, .int .i64 0, .bool false] 46)).alloc (.cells #[.int .i64 0, .int .i64 0, .int .i64 0, .int .i64 0, .int .i64 0, .slice none 0 0, .int .i64 0, .int .i64 0, .int .i64 0, .slice none 0 0, .int .i64 0, .string ⟨#[]⟩, .slice none 0 0, .slice none 0 0] 38))).setRow (w5.heap.size + 1) #[.int .i64 X2.d.me, .int .i64 X2.d.n, .int .i64 X2.d.b.t, .int .i64 X2.d.b.v, .int .i64 X2.d.b.r, .slice X2.ba X2.d.b.l.length X2.bc, .int .i64 X2.d.ld, .int .i64 X2.d.L.bi, .int .i64 X2.d.L.bt, .slice X2.la X2.d.L.l.length X2.lc, .int .i64 X2.d.L.cm, .string X2.d.tx, .slice X2.na X2.d.nx.length X2.nc, .slice X2.ma X2.d.mt.length X2.mc])) := hideIt (below_out (below_via (below_via hbw (below1 _ _)) (below1 _ _)) (setRow_out _ (w5.heap.size + 1) _) (fun k e => by omega));clear F f1 f2 f3 f4 hHeld;refine wpAnyH_ready (rs := [12]) (by kernel_rfl) (by simp) ?_;refine AllReadyH.cons (o := ⟨none, _, _, _, _, _⟩) rfl (fun Kx hK => ?_) AllReadyH.nil;refine step_store_rowK rfl 38 _ _ rfl (w5.heap.size + 1) #[.int .i64 X2.d.me, .int .i64 X2.d.n, .int .i64 X2.d.b.t, .int .i64 X2.d.b.v, .int .i64 X2.d.b.r, .slice X2.ba X2.d.b.l.length X2.bc, .int .i64 X2.d.ld, .int .i64 X2.d.L.bi, .int .i64 X2.d.L.bt, .slice X2.la X2.d.L.l.length X2.lc, .int .i64 X2.d.L.cm, .string X2.d.tx, .slice X2.na X2.d.nx.length X2.nc, .slice X2.ma X2.d.mt.length X2.mc] rfl rfl 38 _ HGP.out (by kernel_rfl) (by rfl) (by simp [Value.oneCell']) ?_;refine hK.out _ _ (HSC.out _ HBW.out) (fun hHeld => ?_);clear hK Kx
            try simp only [aP, aQ, aA, aB, aC]
            refine wpAnyH_ready (rs := [13]) (by kernel_rfl) (by simp) ?_;refine AllReadyH.cons (o := ⟨none, _, _, _, _, _⟩) rfl (fun Kx hK => ?_) AllReadyH.nil;refine step_store_rowK rfl 46 _ _ rfl (w5.heap.size) #[.slice X2.ra X2.R.length X2.rc, .slice X2.qa X2.M.length X2.qc, .int .i64 X2.ix, .bool X2.wt] rfl rfl 46 _ HGQ.out (by kernel_rfl) (by rfl) (by simp [Value.oneCell']) ?_;refine hK.out _ _ (HSC.out _ HF4.out) (fun hHeld => ?_);clear hK Kx
            try simp only [aP, aQ, aA, aB, aC]
            refine wpAnyH_take (i := 14) (oi := ⟨some 14, _, _, _, _, _⟩) (v := ?_) rfl (by kernel_rfl) (by kernel_rfl) (by kernel_rfl) (fun _ _ _ h => h) (Or.inl ⟨by rfl, ?_⟩) (by assumption) ?_
            rotate_left
            ·intro w5 hSw
             (try dsimp only at hSw)
             go_simp
             (try with_reducible rfl)
            try simp only [aP, aQ, aA, aB, aC]
            refine wpAnyH_done (by kernel_rfl) ?_ _;clear hHeld
            go_wp2_with fail
            go_meet
            exact ⟨_, _, X2, rfl, rfl, rfl, hideIt ⟨HF1.out, HF2.out, hv, HF3.out, HF4.out⟩⟩
         ·go_simp;refine hK.out _ _ (HSC.out _ (by first | exact (Below.refl _ _).drew | exact (below1 _ _).drew | exact below_via (Below.refl _ _).drew (below1 _ _) | exact (below_via (below1 _ _) (below1 _ _)).drew | exact below_via (below_via (Below.refl _ _).drew (below1 _ _)) (below1 _ _))) (fun hHeld => ?_);clear hK Kx
          try simp only [aP, aQ, aA, aB, aC]
          refine wpAnyH_ready (rs := [5, 11]) (by kernel_rfl) (by simp) ?_;refine (AllReadyH.cons (o := ⟨some 76, _, _, _, _, _⟩) rfl (fun Kx hK => ?_) (AllReadyH.cons (o := ⟨some 13, _, _, _, _, _⟩) rfl (fun Kx hK => ?_) AllReadyH.nil))
          ·go_simp
           go_at_call 11
           refine (HCM.out _ (by first | exact (Below.refl _ _).drew | exact (below1 _ _).drew | exact below_via (Below.refl _ _).drew (below1 _ _) | exact (below_via (below1 _ _) (below1 _ _)).drew | exact below_via (below_via (Below.refl _ _).drew (below1 _ _)) (below1 _ _))).mono ?_;rintro r w5 ⟨X2, rfl, hv, hr, hb⟩;have hbw : Below wc.heap.size wc w5 := below_via (by first | exact (Below.refl _ _).drew | exact (below1 _ _).drew | exact below_via (Below.refl _ _).drew (below1 _ _) | exact (below_via (below1 _ _) (below1 _ _)).drew | exact below_via (below_via (Below.refl _ _).drew (below1 _ _)) (below1 _ _)) hb;refine hK.out _ _ (HSC.out _ hbw) (fun hHeld => ?_);clear hK Kx
           try simp only [aP, aQ, aA, aB, aC]
           refine wpAnyH_take (i := 6) (oi := ⟨some 70, _, _, _, _, _⟩) (v := ?_) rfl (by kernel_rfl) (by kernel_rfl) (by kernel_rfl) (fun _ _ _ h => h) (Or.inl ⟨by rfl, ?_⟩) (by assumption) ?_
           rotate_left
           ·intro w5 hSw
            (try dsimp only at hSw)
            go_simp
            (try with_reducible rfl)
           try simp only [aP, aQ, aA, aB, aC]
           refine wpAnyH_take (i := 7) (oi := ⟨some 77, _, _, _, _, _⟩) (v := ?_) rfl (by kernel_rfl) (by kernel_rfl) (by kernel_rfl) (fun _ _ _ h => h) (Or.inl ⟨by rfl, ?_⟩) (by assumption) ?_
           rotate_left
           ·intro w5 hSw
            (try dsimp only at hSw)
            go_simp
            (try with_reducible rfl)
           try simp only [aP, aQ, aA, aB, aC]
           refine wpAnyH_take (i := 8) (oi := ⟨some 78, _, _, _, _, _⟩) (v := ?_) rfl (by kernel_rfl) (by kernel_rfl) (by kernel_rfl) (fun _ _ _ h => h) (Or.inl ⟨by rfl, ?_⟩) (by assumption) ?_
           rotate_left
           ·intro w5 hSw
            (try dsimp only at hSw)
            go_simp
            (try with_reducible rfl)
           try simp only [aP, aQ, aA, aB, aC]
           refine wpAnyH_take (i := 9) (oi := ⟨some 79, _, _, _, _, _⟩) (v := ?_) rfl (by kernel_rfl) (by kernel_rfl) (by kernel_rfl) (fun _ _ _ h => h) (Or.inl ⟨by rfl, ?_⟩) (by assumption) ?_
           rotate_left
           ·intro w5 hSw
            (try dsimp only at hSw)
            go_simp
            (try with_reducible rfl)
           try simp only [aP, aQ, aA, aB, aC]
           refine wpAnyH_ready (rs := [11]) (by kernel_rfl) (by simp) ?_;refine (AllReadyH.cons (o := ⟨some 13, _, _, _, _, _⟩) rfl (fun Kx hK => ?_) AllReadyH.nil)
           ·go_simp;refine hK.out _ _ (HSC.out _ (below_via hbw (below1 _ _))) (fun hHeld => ?_);clear hK Kx
            try simp only [aP, aQ, aA, aB, aC]
            have hws : wc.heap.size ≤ w5.heap.size := hbw.size;have hlB : wc.heap.size < (wc.alloc (.cells #[.int .i64 0, .int .i64 0, .int .i64 0, .int .i64 0, .int .i64 0, .slice none 0 0, .int .i64 0, .int .i64 0, .int .i64 0, .slice none 0 0, .int .i64 0, .string ⟨#[]⟩, .slice none 0 0, .slice none 0 0] 38)).drew.heap.size := show wc.heap.size < (wc.alloc (.cells #[.int .i64 0, .int .i64 0, .int .i64 0, .int .i64 0, .int .i64 0, .slice none 0 0, .int .i64 0, .int .i64 0, .int .i64 0, .slice none 0 0, .int .i64 0, .string ⟨#[]⟩, .slice none 0 0, .slice none 0 0] 38)).heap.size by first | (simp; done) | (simp; omega)
            have hlt5 : wc.heap.size < w5.heap.size := Nat.lt_of_lt_of_le hlB hb.size;have hBB : wc.heap.size ≤ (wc.alloc (.cells #[.int .i64 0, .int .i64 0, .int .i64 0, .int .i64 0, .int .i64 0, .slice none 0 0, .int .i64 0, .int .i64 0, .int .i64 0, .slice none 0 0, .int .i64 0, .string ⟨#[]⟩, .slice none 0 0, .slice none 0 0] 38)).drew.heap.size := Nat.le_of_lt hlB;have hp0 : w5.heap[wc.heap.size]? = some (.cells #[.int .i64 0, .int .i64 0, .int .i64 0, .int .i64 0, .int .i64 0, .slice none 0 0, .int .i64 0, .int .i64 0, .int .i64 0, .slice none 0 0, .int .i64 0, .string ⟨#[]⟩, .slice none 0 0, .slice none 0 0] 38 (0, 0)) := blkK (w := (wc.alloc (.cells #[.int .i64 0, .int .i64 0, .int .i64 0, .int .i64 0, .int .i64 0, .slice none 0 0, .int .i64 0, .int .i64 0, .int .i64 0, .slice none 0 0, .int .i64 0, .string ⟨#[]⟩, .slice none 0 0, .slice none 0 0] 38)).drew) (heap_alloc_new wc _) hb;have F := two_q (V := wc) (w5 := w5) #[.int .i64 X2.d.me, .int .i64 X2.d.n, .int .i64 X2.d.b.t, .int .i64 X2.d.b.v, .int .i64 X2.d.b.r, .slice X2.ba X2.d.b.l.length X2.bc, .int .i64 X2.d.ld, .int .i64 X2.d.L.bi, .int .i64 X2.d.L.bt, .slice X2.la X2.d.L.l.length X2.lc, .int .i64 X2.d.L.cm, .string X2.d.tx, .slice X2.na X2.d.nx.length X2.nc, .slice X2.ma X2.d.mt.length X2.mc] #[.slice X2.ra X2.R.length X2.rc, .slice X2.qa X2.M.length X2.qc, .int .i64 X2.ix, .bool X2.wt] #[.slice none 0 0, .slice none 0 0, .int .i64 0, .bool false] hr hp0 hlB hbw (Nat.le_refl _);obtain ⟨f1, f2, f3, f4⟩ := F.out;have HF1 := hideIt f1;have HF2 := hideIt f2;have HF3 := hideIt (f3.base hBB);have HF4 := hideIt f4;have HGP : Hid (((w5.alloc (.cells #[.slice none 0 0, .slice none 0 0, .int .i64 0, .bool false] 46))).heap[wc.heap.size]? = some (.cells #[.int .i64 0, .int .i64 0, .int .i64 0, .int .i64 0, .int .i64 0, .slice none 0 0, .int .i64 0, .int .i64 0, .int .i64 0, .slice none 0 0, .int .i64 0, .string ⟨#[]⟩, .slice none 0 0, .slice none 0 0] 38 (0, 0))) := hideIt (blkK hp0 (below1 _ _));have HGQ : Hid ((((w5.alloc (.cells #[.slice none 0 0, .slice none 0 0, .int .i64 0, .bool false] 46))).setRow (wc.heap.size) #[.int .i64 X2.d.me, .int .i64 X2.d.n, .int .i64 X2.d.b.t, .int .i64 X2.d.b.v, .int .i64 X2.d.b.r, .slice X2.ba X2.d.b.l.length X2.bc, .int .i64 X2.d.ld, .int .i64 X2.d.L.bi, .int .i64 X2.d.L.bt, .slice X2.la X2.d.L.l.length X2.lc, .int .i64 X2.d.L.cm, .string X2.d.tx, .slice X2.na X2.d.nx.length X2.nc, .slice X2.ma X2.d.mt.length X2.mc]).heap[w5.heap.size]? = some (.cells #[.slice none 0 0, .slice none 0 0, .int .i64 0, .bool false] 46 (0, 0))) := hideIt ((setRow_other _ _ _ _ (by omega)).trans (heap_alloc_new w5 _));have HBW : Hid (Below wc.heap.size wc (((w5.alloc (.cells #[.slice none 0 0, .slice none 0 0, .int .i64 0, .bool false] 46))).setRow (wc.heap.size) #[.int .i64 X2.d.me, .int .i64 X2.d.n, .int .i64 X2.d.b.t, .int .i64 X2.d.b.v, .int .i64 X2.d.b.r, .slice X2.ba X2.d.b.l.length X2.bc, .int .i64 X2.d.ld, .int .i64 X2.d.L.bi, .int .i64 X2.d.L.bt, .slice X2.la X2.d.L.l.length X2.lc, .int .i64 X2.d.L.cm, .string X2.d.tx, .slice X2.na X2.d.nx.length X2.nc, .slice X2.ma X2.d.mt.length X2.mc])) := hideIt (below_out (below_via hbw (below1 _ _)) (setRow_out _ (wc.heap.size) _) (fun k e => by omega));clear F f1 f2 f3 f4 hHeld;refine wpAnyH_ready (rs := [12]) (by kernel_rfl) (by simp) ?_;refine AllReadyH.cons (o := ⟨none, _, _, _, _, _⟩) rfl (fun Kx hK => ?_) AllReadyH.nil;refine step_store_rowK rfl 38 _ _ rfl (wc.heap.size) #[.int .i64 X2.d.me, .int .i64 X2.d.n, .int .i64 X2.d.b.t, .int .i64 X2.d.b.v, .int .i64 X2.d.b.r, .slice X2.ba X2.d.b.l.length X2.bc, .int .i64 X2.d.ld, .int .i64 X2.d.L.bi, .int .i64 X2.d.L.bt, .slice X2.la X2.d.L.l.length X2.lc, .int .i64 X2.d.L.cm, .string X2.d.tx, .slice X2.na X2.d.nx.length X2.nc, .slice X2.ma X2.d.mt.length X2.mc] rfl rfl 38 _ HGP.out (by kernel_rfl) (by rfl) (by simp [Value.oneCell']) ?_;refine hK.out _ _ (HSC.out _ HBW.out) (fun hHeld => ?_);clear hK Kx
            try simp only [aP, aQ, aA, aB, aC]
            refine wpAnyH_ready (rs := [13]) (by kernel_rfl) (by simp) ?_;refine AllReadyH.cons (o := ⟨none, _, _, _, _, _⟩) rfl (fun Kx hK => ?_) AllReadyH.nil;refine step_store_rowK rfl 46 _ _ rfl (w5.heap.size) #[.slice X2.ra X2.R.length X2.rc, .slice X2.qa X2.M.length X2.qc, .int .i64 X2.ix, .bool X2.wt] rfl rfl 46 _ HGQ.out (by kernel_rfl) (by rfl) (by simp [Value.oneCell']) ?_;refine hK.out _ _ (HSC.out _ HF4.out) (fun hHeld => ?_);clear hK Kx
            try simp only [aP, aQ, aA, aB, aC]
            refine wpAnyH_take (i := 14) (oi := ⟨some 14, _, _, _, _, _⟩) (v := ?_) rfl (by kernel_rfl) (by kernel_rfl) (by kernel_rfl) (fun _ _ _ h => h) (Or.inl ⟨by rfl, ?_⟩) (by assumption) ?_
            rotate_left
            ·intro w5 hSw
             (try dsimp only at hSw)
             go_simp
             (try with_reducible rfl)
            try simp only [aP, aQ, aA, aB, aC]
            refine wpAnyH_done (by kernel_rfl) ?_ _;clear hHeld
            go_wp2_with fail
            go_meet
            exact ⟨_, _, X2, rfl, rfl, rfl, hideIt ⟨HF1.out, HF2.out, hv, HF3.out, HF4.out⟩⟩
          ·go_simp;refine hK.out _ _ (HSC.out _ (by first | exact (Below.refl _ _).drew | exact (below1 _ _).drew | exact below_via (Below.refl _ _).drew (below1 _ _) | exact (below_via (below1 _ _) (below1 _ _)).drew | exact below_via (below_via (Below.refl _ _).drew (below1 _ _)) (below1 _ _))) (fun hHeld => ?_);clear hK Kx
           try simp only [aP, aQ, aA, aB, aC]
           refine wpAnyH_ready (rs := [5]) (by kernel_rfl) (by simp) ?_;refine (AllReadyH.cons (o := ⟨some 76, _, _, _, _, _⟩) rfl (fun Kx hK => ?_) AllReadyH.nil)
           ·go_simp
            go_at_call 11
            refine (HCM.out _ (by first | exact (Below.refl _ _).drew | exact (below1 _ _).drew | exact below_via (Below.refl _ _).drew (below1 _ _) | exact (below_via (below1 _ _) (below1 _ _)).drew | exact below_via (below_via (Below.refl _ _).drew (below1 _ _)) (below1 _ _))).mono ?_;rintro r w5 ⟨X2, rfl, hv, hr, hb⟩;have hbw : Below wc.heap.size wc w5 := below_via (by first | exact (Below.refl _ _).drew | exact (below1 _ _).drew | exact below_via (Below.refl _ _).drew (below1 _ _) | exact (below_via (below1 _ _) (below1 _ _)).drew | exact below_via (below_via (Below.refl _ _).drew (below1 _ _)) (below1 _ _)) hb;refine hK.out _ _ (HSC.out _ hbw) (fun hHeld => ?_);clear hK Kx
            try simp only [aP, aQ, aA, aB, aC]
            refine wpAnyH_take (i := 6) (oi := ⟨some 70, _, _, _, _, _⟩) (v := ?_) rfl (by kernel_rfl) (by kernel_rfl) (by kernel_rfl) (fun _ _ _ h => h) (Or.inl ⟨by rfl, ?_⟩) (by assumption) ?_
            rotate_left
            ·intro w5 hSw
             (try dsimp only at hSw)
             go_simp
             (try with_reducible rfl)
            try simp only [aP, aQ, aA, aB, aC]
            refine wpAnyH_take (i := 7) (oi := ⟨some 77, _, _, _, _, _⟩) (v := ?_) rfl (by kernel_rfl) (by kernel_rfl) (by kernel_rfl) (fun _ _ _ h => h) (Or.inl ⟨by rfl, ?_⟩) (by assumption) ?_
            rotate_left
            ·intro w5 hSw
             (try dsimp only at hSw)
             go_simp
             (try with_reducible rfl)
            try simp only [aP, aQ, aA, aB, aC]
            refine wpAnyH_take (i := 8) (oi := ⟨some 78, _, _, _, _, _⟩) (v := ?_) rfl (by kernel_rfl) (by kernel_rfl) (by kernel_rfl) (fun _ _ _ h => h) (Or.inl ⟨by rfl, ?_⟩) (by assumption) ?_
            rotate_left
            ·intro w5 hSw
             (try dsimp only at hSw)
             go_simp
             (try with_reducible rfl)
            try simp only [aP, aQ, aA, aB, aC]
            refine wpAnyH_take (i := 9) (oi := ⟨some 79, _, _, _, _, _⟩) (v := ?_) rfl (by kernel_rfl) (by kernel_rfl) (by kernel_rfl) (fun _ _ _ h => h) (Or.inl ⟨by rfl, ?_⟩) (by assumption) ?_
            rotate_left
            ·intro w5 hSw
             (try dsimp only at hSw)
             go_simp
             (try with_reducible rfl)
            try simp only [aP, aQ, aA, aB, aC]
            have hws : wc.heap.size ≤ w5.heap.size := hbw.size;have hlB : wc.heap.size < ((wc.alloc (.cells #[.int .i64 0, .int .i64 0, .int .i64 0, .int .i64 0, .int .i64 0, .slice none 0 0, .int .i64 0, .int .i64 0, .int .i64 0, .slice none 0 0, .int .i64 0, .string ⟨#[]⟩, .slice none 0 0, .slice none 0 0] 38)).alloc (.cells #[.slice none 0 0, .slice none 0 0, .int .i64 0, .bool false] 46)).drew.heap.size := show wc.heap.size < ((wc.alloc (.cells #[.int .i64 0, .int .i64 0, .int .i64 0, .int .i64 0, .int .i64 0, .slice none 0 0, .int .i64 0, .int .i64 0, .int .i64 0, .slice none 0 0, .int .i64 0, .string ⟨#[]⟩, .slice none 0 0, .slice none 0 0] 38)).alloc (.cells #[.slice none 0 0, .slice none 0 0, .int .i64 0, .bool false] 46)).heap.size by first | (simp; done) | (simp; omega)
            have hlt5 : wc.heap.size < w5.heap.size := Nat.lt_of_lt_of_le hlB hb.size;have hlB1 : wc.heap.size + 1 < ((wc.alloc (.cells #[.int .i64 0, .int .i64 0, .int .i64 0, .int .i64 0, .int .i64 0, .slice none 0 0, .int .i64 0, .int .i64 0, .int .i64 0, .slice none 0 0, .int .i64 0, .string ⟨#[]⟩, .slice none 0 0, .slice none 0 0] 38)).alloc (.cells #[.slice none 0 0, .slice none 0 0, .int .i64 0, .bool false] 46)).drew.heap.size := show wc.heap.size + 1 < ((wc.alloc (.cells #[.int .i64 0, .int .i64 0, .int .i64 0, .int .i64 0, .int .i64 0, .slice none 0 0, .int .i64 0, .int .i64 0, .int .i64 0, .slice none 0 0, .int .i64 0, .string ⟨#[]⟩, .slice none 0 0, .slice none 0 0] 38)).alloc (.cells #[.slice none 0 0, .slice none 0 0, .int .i64 0, .bool false] 46)).heap.size by first | (simp; done) | (simp; omega)
            have hBB : wc.heap.size ≤ ((wc.alloc (.cells #[.int .i64 0, .int .i64 0, .int .i64 0, .int .i64 0, .int .i64 0, .slice none 0 0, .int .i64 0, .int .i64 0, .int .i64 0, .slice none 0 0, .int .i64 0, .string ⟨#[]⟩, .slice none 0 0, .slice none 0 0] 38)).alloc (.cells #[.slice none 0 0, .slice none 0 0, .int .i64 0, .bool false] 46)).drew.heap.size := Nat.le_of_lt hlB;have hp0 : w5.heap[wc.heap.size]? = some (.cells #[.int .i64 0, .int .i64 0, .int .i64 0, .int .i64 0, .int .i64 0, .slice none 0 0, .int .i64 0, .int .i64 0, .int .i64 0, .slice none 0 0, .int .i64 0, .string ⟨#[]⟩, .slice none 0 0, .slice none 0 0] 38 (0, 0)) := blkK (w := ((wc.alloc (.cells #[.int .i64 0, .int .i64 0, .int .i64 0, .int .i64 0, .int .i64 0, .slice none 0 0, .int .i64 0, .int .i64 0, .int .i64 0, .slice none 0 0, .int .i64 0, .string ⟨#[]⟩, .slice none 0 0, .slice none 0 0] 38)).alloc (.cells #[.slice none 0 0, .slice none 0 0, .int .i64 0, .bool false] 46)).drew) (blkK (heap_alloc_new wc _) (below1 _ _).drew) hb;have hq0 : w5.heap[wc.heap.size + 1]? = some (.cells #[.slice none 0 0, .slice none 0 0, .int .i64 0, .bool false] 46 (0, 0)) := blkK (w := ((wc.alloc (.cells #[.int .i64 0, .int .i64 0, .int .i64 0, .int .i64 0, .int .i64 0, .slice none 0 0, .int .i64 0, .int .i64 0, .int .i64 0, .slice none 0 0, .int .i64 0, .string ⟨#[]⟩, .slice none 0 0, .slice none 0 0] 38)).alloc (.cells #[.slice none 0 0, .slice none 0 0, .int .i64 0, .bool false] 46)).drew) (alloc2_new _ _ _ _) hb;have F := two_old (V := wc) (w5 := w5) #[.int .i64 X2.d.me, .int .i64 X2.d.n, .int .i64 X2.d.b.t, .int .i64 X2.d.b.v, .int .i64 X2.d.b.r, .slice X2.ba X2.d.b.l.length X2.bc, .int .i64 X2.d.ld, .int .i64 X2.d.L.bi, .int .i64 X2.d.L.bt, .slice X2.la X2.d.L.l.length X2.lc, .int .i64 X2.d.L.cm, .string X2.d.tx, .slice X2.na X2.d.nx.length X2.nc, .slice X2.ma X2.d.mt.length X2.mc] #[.slice X2.ra X2.R.length X2.rc, .slice X2.qa X2.M.length X2.qc, .int .i64 X2.ix, .bool X2.wt] hr hp0 hq0 (by omega) hlB hlB1 hbw (Nat.le_refl _) (Nat.le_succ _);obtain ⟨f1, f2, f3, f4⟩ := F.out;have HF1 := hideIt f1;have HF2 := hideIt f2;have HF3 := hideIt (f3.base hBB);have HF4 := hideIt f4;have HGP : Hid ((w5).heap[wc.heap.size]? = some (.cells #[.int .i64 0, .int .i64 0, .int .i64 0, .int .i64 0, .int .i64 0, .slice none 0 0, .int .i64 0, .int .i64 0, .int .i64 0, .slice none 0 0, .int .i64 0, .string ⟨#[]⟩, .slice none 0 0, .slice none 0 0] 38 (0, 0))) := hideIt (hp0);have HGQ : Hid (((w5).setRow (wc.heap.size) #[.int .i64 X2.d.me, .int .i64 X2.d.n, .int .i64 X2.d.b.t, .int .i64 X2.d.b.v, .int .i64 X2.d.b.r, .slice X2.ba X2.d.b.l.length X2.bc, .int .i64 X2.d.ld, .int .i64 X2.d.L.bi, .int .i64 X2.d.L.bt, .slice X2.la X2.d.L.l.length X2.lc, .int .i64 X2.d.L.cm, .string X2.d.tx, .slice X2.na X2.d.nx.length X2.nc, .slice X2.ma X2.d.mt.length X2.mc]).heap[wc.heap.size + 1]? = some (.cells #[.slice none 0 0, .slice none 0 0, .int .i64 0, .bool false] 46 (0, 0))) := hideIt ((setRow_other _ _ _ _ (by omega)).trans (hq0));have HBW : Hid (Below wc.heap.size wc ((w5).setRow (wc.heap.size) #[.int .i64 X2.d.me, .int .i64 X2.d.n, .int .i64 X2.d.b.t, .int .i64 X2.d.b.v, .int .i64 X2.d.b.r, .slice X2.ba X2.d.b.l.length X2.bc, .int .i64 X2.d.ld, .int .i64 X2.d.L.bi, .int .i64 X2.d.L.bt, .slice X2.la X2.d.L.l.length X2.lc, .int .i64 X2.d.L.cm, .string X2.d.tx, .slice X2.na X2.d.nx.length X2.nc, .slice X2.ma X2.d.mt.length X2.mc])) := hideIt (below_out (hbw) (setRow_out _ (wc.heap.size) _) (fun k e => by omega));clear F f1 f2 f3 f4 hHeld;refine wpAnyH_ready (rs := [12]) (by kernel_rfl) (by simp) ?_;refine AllReadyH.cons (o := ⟨none, _, _, _, _, _⟩) rfl (fun Kx hK => ?_) AllReadyH.nil;refine step_store_rowK rfl 38 _ _ rfl (wc.heap.size) #[.int .i64 X2.d.me, .int .i64 X2.d.n, .int .i64 X2.d.b.t, .int .i64 X2.d.b.v, .int .i64 X2.d.b.r, .slice X2.ba X2.d.b.l.length X2.bc, .int .i64 X2.d.ld, .int .i64 X2.d.L.bi, .int .i64 X2.d.L.bt, .slice X2.la X2.d.L.l.length X2.lc, .int .i64 X2.d.L.cm, .string X2.d.tx, .slice X2.na X2.d.nx.length X2.nc, .slice X2.ma X2.d.mt.length X2.mc] rfl rfl 38 _ HGP.out (by kernel_rfl) (by rfl) (by simp [Value.oneCell']) ?_;refine hK.out _ _ (HSC.out _ HBW.out) (fun hHeld => ?_);clear hK Kx
            try simp only [aP, aQ, aA, aB, aC]
            refine wpAnyH_ready (rs := [13]) (by kernel_rfl) (by simp) ?_;refine AllReadyH.cons (o := ⟨none, _, _, _, _, _⟩) rfl (fun Kx hK => ?_) AllReadyH.nil;refine step_store_rowK rfl 46 _ _ rfl (wc.heap.size + 1) #[.slice X2.ra X2.R.length X2.rc, .slice X2.qa X2.M.length X2.qc, .int .i64 X2.ix, .bool X2.wt] rfl rfl 46 _ HGQ.out (by kernel_rfl) (by rfl) (by simp [Value.oneCell']) ?_;refine hK.out _ _ (HSC.out _ HF4.out) (fun hHeld => ?_);clear hK Kx
            try simp only [aP, aQ, aA, aB, aC]
            refine wpAnyH_take (i := 14) (oi := ⟨some 14, _, _, _, _, _⟩) (v := ?_) rfl (by kernel_rfl) (by kernel_rfl) (by kernel_rfl) (fun _ _ _ h => h) (Or.inl ⟨by rfl, ?_⟩) (by assumption) ?_
            rotate_left
            ·intro w5 hSw
             (try dsimp only at hSw)
             go_simp
             (try with_reducible rfl)
            try simp only [aP, aQ, aA, aB, aC]
            refine wpAnyH_done (by kernel_rfl) ?_ _;clear hHeld
            go_wp2_with fail
            go_meet
            exact ⟨_, _, X2, rfl, rfl, rfl, hideIt ⟨HF1.out, HF2.out, hv, HF3.out, HF4.out⟩⟩
         ·go_simp;refine hK.out _ _ (HSC.out _ (by first | exact (Below.refl _ _).drew | exact (below1 _ _).drew | exact below_via (Below.refl _ _).drew (below1 _ _) | exact (below_via (below1 _ _) (below1 _ _)).drew | exact below_via (below_via (Below.refl _ _).drew (below1 _ _)) (below1 _ _))) (fun hHeld => ?_);clear hK Kx
          try simp only [aP, aQ, aA, aB, aC]
          refine wpAnyH_ready (rs := [5, 10]) (by kernel_rfl) (by simp) ?_;refine (AllReadyH.cons (o := ⟨some 76, _, _, _, _, _⟩) rfl (fun Kx hK => ?_) (AllReadyH.cons (o := ⟨some 12, _, _, _, _, _⟩) rfl (fun Kx hK => ?_) AllReadyH.nil))
          ·go_simp
           go_at_call 11
           refine (HCM.out _ (by first | exact (Below.refl _ _).drew | exact (below1 _ _).drew | exact below_via (Below.refl _ _).drew (below1 _ _) | exact (below_via (below1 _ _) (below1 _ _)).drew | exact below_via (below_via (Below.refl _ _).drew (below1 _ _)) (below1 _ _))).mono ?_;rintro r w5 ⟨X2, rfl, hv, hr, hb⟩;have hbw : Below wc.heap.size wc w5 := below_via (by first | exact (Below.refl _ _).drew | exact (below1 _ _).drew | exact below_via (Below.refl _ _).drew (below1 _ _) | exact (below_via (below1 _ _) (below1 _ _)).drew | exact below_via (below_via (Below.refl _ _).drew (below1 _ _)) (below1 _ _)) hb;refine hK.out _ _ (HSC.out _ hbw) (fun hHeld => ?_);clear hK Kx
           try simp only [aP, aQ, aA, aB, aC]
           refine wpAnyH_take (i := 6) (oi := ⟨some 70, _, _, _, _, _⟩) (v := ?_) rfl (by kernel_rfl) (by kernel_rfl) (by kernel_rfl) (fun _ _ _ h => h) (Or.inl ⟨by rfl, ?_⟩) (by assumption) ?_
           rotate_left
           ·intro w5 hSw
            (try dsimp only at hSw)
            go_simp
            (try with_reducible rfl)
           try simp only [aP, aQ, aA, aB, aC]
           refine wpAnyH_take (i := 7) (oi := ⟨some 77, _, _, _, _, _⟩) (v := ?_) rfl (by kernel_rfl) (by kernel_rfl) (by kernel_rfl) (fun _ _ _ h => h) (Or.inl ⟨by rfl, ?_⟩) (by assumption) ?_
           rotate_left
           ·intro w5 hSw
            (try dsimp only at hSw)
            go_simp
            (try with_reducible rfl)
           try simp only [aP, aQ, aA, aB, aC]
           refine wpAnyH_take (i := 8) (oi := ⟨some 78, _, _, _, _, _⟩) (v := ?_) rfl (by kernel_rfl) (by kernel_rfl) (by kernel_rfl) (fun _ _ _ h => h) (Or.inl ⟨by rfl, ?_⟩) (by assumption) ?_
           rotate_left
           ·intro w5 hSw
            (try dsimp only at hSw)
            go_simp
            (try with_reducible rfl)
           try simp only [aP, aQ, aA, aB, aC]
           refine wpAnyH_take (i := 9) (oi := ⟨some 79, _, _, _, _, _⟩) (v := ?_) rfl (by kernel_rfl) (by kernel_rfl) (by kernel_rfl) (fun _ _ _ h => h) (Or.inl ⟨by rfl, ?_⟩) (by assumption) ?_
           rotate_left
           ·intro w5 hSw
            (try dsimp only at hSw)
            go_simp
            (try with_reducible rfl)
           try simp only [aP, aQ, aA, aB, aC]
           refine wpAnyH_ready (rs := [10]) (by kernel_rfl) (by simp) ?_;refine (AllReadyH.cons (o := ⟨some 12, _, _, _, _, _⟩) rfl (fun Kx hK => ?_) AllReadyH.nil)
           ·go_simp;refine hK.out _ _ (HSC.out _ (below_via hbw (below1 _ _))) (fun hHeld => ?_);clear hK Kx
            try simp only [aP, aQ, aA, aB, aC]
            have hws : wc.heap.size ≤ w5.heap.size := hbw.size;have hlB : wc.heap.size < (wc.alloc (.cells #[.slice none 0 0, .slice none 0 0, .int .i64 0, .bool false] 46)).drew.heap.size := show wc.heap.size < (wc.alloc (.cells #[.slice none 0 0, .slice none 0 0, .int .i64 0, .bool false] 46)).heap.size by first | (simp; done) | (simp; omega)
            have hlt5 : wc.heap.size < w5.heap.size := Nat.lt_of_lt_of_le hlB hb.size;have hBB : wc.heap.size ≤ (wc.alloc (.cells #[.slice none 0 0, .slice none 0 0, .int .i64 0, .bool false] 46)).drew.heap.size := Nat.le_of_lt hlB;have hq0 : w5.heap[wc.heap.size]? = some (.cells #[.slice none 0 0, .slice none 0 0, .int .i64 0, .bool false] 46 (0, 0)) := blkK (w := (wc.alloc (.cells #[.slice none 0 0, .slice none 0 0, .int .i64 0, .bool false] 46)).drew) (heap_alloc_new wc _) hb;have F := two_p (V := wc) (w5 := w5) #[.int .i64 X2.d.me, .int .i64 X2.d.n, .int .i64 X2.d.b.t, .int .i64 X2.d.b.v, .int .i64 X2.d.b.r, .slice X2.ba X2.d.b.l.length X2.bc, .int .i64 X2.d.ld, .int .i64 X2.d.L.bi, .int .i64 X2.d.L.bt, .slice X2.la X2.d.L.l.length X2.lc, .int .i64 X2.d.L.cm, .string X2.d.tx, .slice X2.na X2.d.nx.length X2.nc, .slice X2.ma X2.d.mt.length X2.mc] #[.slice X2.ra X2.R.length X2.rc, .slice X2.qa X2.M.length X2.qc, .int .i64 X2.ix, .bool X2.wt] #[.int .i64 0, .int .i64 0, .int .i64 0, .int .i64 0, .int .i64 0, .slice none 0 0, .int .i64 0, .int .i64 0, .int .i64 0, .slice none 0 0, .int .i64 0, .string ⟨#[]⟩, .slice none 0 0, .slice none 0 0] hr hq0 hlB hbw (Nat.le_refl _);obtain ⟨f1, f2, f3, f4⟩ := F.out;have HF1 := hideIt f1;have HF2 := hideIt f2;have HF3 := hideIt (f3.base hBB);have HF4 := hideIt f4;have HGP : Hid (((w5.alloc (.cells #[.int .i64 0, .int .i64 0, .int .i64 0, .int .i64 0, .int .i64 0, .slice none 0 0, .int .i64 0, .int .i64 0, .int .i64 0, .slice none 0 0, .int .i64 0, .string ⟨#[]⟩, .slice none 0 0, .slice none 0 0] 38))).heap[w5.heap.size]? = some (.cells #[.int .i64 0, .int .i64 0, .int .i64 0, .int .i64 0, .int .i64 0, .slice none 0 0, .int .i64 0, .int .i64 0, .int .i64 0, .slice none 0 0, .int .i64 0, .string ⟨#[]⟩, .slice none 0 0, .slice none 0 0] 38 (0, 0))) := hideIt (heap_alloc_new w5 _);have HGQ : Hid ((((w5.alloc (.cells #[.int .i64 0, .int .i64 0, .int .i64 0, .int .i64 0, .int .i64 0, .slice none 0 0, .int .i64 0, .int .i64 0, .int .i64 0, .slice none 0 0, .int .i64 0, .string ⟨#[]⟩, .slice none 0 0, .slice none 0 0] 38))).setRow (w5.heap.size) #[.int .i64 X2.d.me, .int .i64 X2.d.n, .int .i64 X2.d.b.t, .int .i64 X2.d.b.v, .int .i64 X2.d.b.r, .slice X2.ba X2.d.b.l.length X2.bc, .int .i64 X2.d.ld, .int .i64 X2.d.L.bi, .int .i64 X2.d.L.bt, .slice X2.la X2.d.L.l.length X2.lc, .int .i64 X2.d.L.cm, .string X2.d.tx, .slice X2.na X2.d.nx.length X2.nc, .slice X2.ma X2.d.mt.length X2.mc]).heap[wc.heap.size]? = some (.cells #[.slice none 0 0, .slice none 0 0, .int .i64 0, .bool false] 46 (0, 0))) := hideIt ((setRow_other _ _ _ _ (by omega)).trans (blkK hq0 (below1 _ _)));have HBW : Hid (Below wc.heap.size wc (((w5.alloc (.cells #[.int .i64 0, .int .i64 0, .int .i64 0, .int .i64 0, .int .i64 0, .slice none 0 0, .int .i64 0, .int .i64 0, .int .i64 0, .slice none 0 0, .int .i64 0, .string ⟨#[]⟩, .slice none 0 0, .slice none 0 0] 38))).setRow (w5.heap.size) #[.int .i64 X2.d.me, .int .i64 X2.d.n, .int .i64 X2.d.b.t, .int .i64 X2.d.b.v, .int .i64 X2.d.b.r, .slice X2.ba X2.d.b.l.length X2.bc, .int .i64 X2.d.ld, .int .i64 X2.d.L.bi, .int .i64 X2.d.L.bt, .slice X2.la X2.d.L.l.length X2.lc, .int .i64 X2.d.L.cm, .string X2.d.tx, .slice X2.na X2.d.nx.length X2.nc, .slice X2.ma X2.d.mt.length X2.mc])) := hideIt (below_out (below_via hbw (below1 _ _)) (setRow_out _ (w5.heap.size) _) (fun k e => by omega));clear F f1 f2 f3 f4 hHeld;refine wpAnyH_ready (rs := [12]) (by kernel_rfl) (by simp) ?_;refine AllReadyH.cons (o := ⟨none, _, _, _, _, _⟩) rfl (fun Kx hK => ?_) AllReadyH.nil;refine step_store_rowK rfl 38 _ _ rfl (w5.heap.size) #[.int .i64 X2.d.me, .int .i64 X2.d.n, .int .i64 X2.d.b.t, .int .i64 X2.d.b.v, .int .i64 X2.d.b.r, .slice X2.ba X2.d.b.l.length X2.bc, .int .i64 X2.d.ld, .int .i64 X2.d.L.bi, .int .i64 X2.d.L.bt, .slice X2.la X2.d.L.l.length X2.lc, .int .i64 X2.d.L.cm, .string X2.d.tx, .slice X2.na X2.d.nx.length X2.nc, .slice X2.ma X2.d.mt.length X2.mc] rfl rfl 38 _ HGP.out (by kernel_rfl) (by rfl) (by simp [Value.oneCell']) ?_;refine hK.out _ _ (HSC.out _ HBW.out) (fun hHeld => ?_);clear hK Kx
            try simp only [aP, aQ, aA, aB, aC]
            refine wpAnyH_ready (rs := [13]) (by kernel_rfl) (by simp) ?_;refine AllReadyH.cons (o := ⟨none, _, _, _, _, _⟩) rfl (fun Kx hK => ?_) AllReadyH.nil;refine step_store_rowK rfl 46 _ _ rfl (wc.heap.size) #[.slice X2.ra X2.R.length X2.rc, .slice X2.qa X2.M.length X2.qc, .int .i64 X2.ix, .bool X2.wt] rfl rfl 46 _ HGQ.out (by kernel_rfl) (by rfl) (by simp [Value.oneCell']) ?_;refine hK.out _ _ (HSC.out _ HF4.out) (fun hHeld => ?_);clear hK Kx
            try simp only [aP, aQ, aA, aB, aC]
            refine wpAnyH_take (i := 14) (oi := ⟨some 14, _, _, _, _, _⟩) (v := ?_) rfl (by kernel_rfl) (by kernel_rfl) (by kernel_rfl) (fun _ _ _ h => h) (Or.inl ⟨by rfl, ?_⟩) (by assumption) ?_
            rotate_left
            ·intro w5 hSw
             (try dsimp only at hSw)
             go_simp
             (try with_reducible rfl)
            try simp only [aP, aQ, aA, aB, aC]
            refine wpAnyH_done (by kernel_rfl) ?_ _;clear hHeld
            go_wp2_with fail
            go_meet
            exact ⟨_, _, X2, rfl, rfl, rfl, hideIt ⟨HF1.out, HF2.out, hv, HF3.out, HF4.out⟩⟩
          ·go_simp;refine hK.out _ _ (HSC.out _ (by first | exact (Below.refl _ _).drew | exact (below1 _ _).drew | exact below_via (Below.refl _ _).drew (below1 _ _) | exact (below_via (below1 _ _) (below1 _ _)).drew | exact below_via (below_via (Below.refl _ _).drew (below1 _ _)) (below1 _ _))) (fun hHeld => ?_);clear hK Kx
           try simp only [aP, aQ, aA, aB, aC]
           refine wpAnyH_ready (rs := [5]) (by kernel_rfl) (by simp) ?_;refine (AllReadyH.cons (o := ⟨some 76, _, _, _, _, _⟩) rfl (fun Kx hK => ?_) AllReadyH.nil)
           ·go_simp
            go_at_call 11
            refine (HCM.out _ (by first | exact (Below.refl _ _).drew | exact (below1 _ _).drew | exact below_via (Below.refl _ _).drew (below1 _ _) | exact (below_via (below1 _ _) (below1 _ _)).drew | exact below_via (below_via (Below.refl _ _).drew (below1 _ _)) (below1 _ _))).mono ?_;rintro r w5 ⟨X2, rfl, hv, hr, hb⟩;have hbw : Below wc.heap.size wc w5 := below_via (by first | exact (Below.refl _ _).drew | exact (below1 _ _).drew | exact below_via (Below.refl _ _).drew (below1 _ _) | exact (below_via (below1 _ _) (below1 _ _)).drew | exact below_via (below_via (Below.refl _ _).drew (below1 _ _)) (below1 _ _)) hb;refine hK.out _ _ (HSC.out _ hbw) (fun hHeld => ?_);clear hK Kx
            try simp only [aP, aQ, aA, aB, aC]
            refine wpAnyH_take (i := 6) (oi := ⟨some 70, _, _, _, _, _⟩) (v := ?_) rfl (by kernel_rfl) (by kernel_rfl) (by kernel_rfl) (fun _ _ _ h => h) (Or.inl ⟨by rfl, ?_⟩) (by assumption) ?_
            rotate_left
            ·intro w5 hSw
             (try dsimp only at hSw)
             go_simp
             (try with_reducible rfl)
            try simp only [aP, aQ, aA, aB, aC]
            refine wpAnyH_take (i := 7) (oi := ⟨some 77, _, _, _, _, _⟩) (v := ?_) rfl (by kernel_rfl) (by kernel_rfl) (by kernel_rfl) (fun _ _ _ h => h) (Or.inl ⟨by rfl, ?_⟩) (by assumption) ?_
            rotate_left
            ·intro w5 hSw
             (try dsimp only at hSw)
             go_simp
             (try with_reducible rfl)
            try simp only [aP, aQ, aA, aB, aC]
            refine wpAnyH_take (i := 8) (oi := ⟨some 78, _, _, _, _, _⟩) (v := ?_) rfl (by kernel_rfl) (by kernel_rfl) (by kernel_rfl) (fun _ _ _ h => h) (Or.inl ⟨by rfl, ?_⟩) (by assumption) ?_
            rotate_left
            ·intro w5 hSw
             (try dsimp only at hSw)
             go_simp
             (try with_reducible rfl)
            try simp only [aP, aQ, aA, aB, aC]
            refine wpAnyH_take (i := 9) (oi := ⟨some 79, _, _, _, _, _⟩) (v := ?_) rfl (by kernel_rfl) (by kernel_rfl) (by kernel_rfl) (fun _ _ _ h => h) (Or.inl ⟨by rfl, ?_⟩) (by assumption) ?_
            rotate_left
            ·intro w5 hSw
             (try dsimp only at hSw)
             go_simp
             (try with_reducible rfl)
            try simp only [aP, aQ, aA, aB, aC]
            have hws : wc.heap.size ≤ w5.heap.size := hbw.size;have hlB : wc.heap.size < ((wc.alloc (.cells #[.slice none 0 0, .slice none 0 0, .int .i64 0, .bool false] 46)).alloc (.cells #[.int .i64 0, .int .i64 0, .int .i64 0, .int .i64 0, .int .i64 0, .slice none 0 0, .int .i64 0, .int .i64 0, .int .i64 0, .slice none 0 0, .int .i64 0, .string ⟨#[]⟩, .slice none 0 0, .slice none 0 0] 38)).drew.heap.size := show wc.heap.size < ((wc.alloc (.cells #[.slice none 0 0, .slice none 0 0, .int .i64 0, .bool false] 46)).alloc (.cells #[.int .i64 0, .int .i64 0, .int .i64 0, .int .i64 0, .int .i64 0, .slice none 0 0, .int .i64 0, .int .i64 0, .int .i64 0, .slice none 0 0, .int .i64 0, .string ⟨#[]⟩, .slice none 0 0, .slice none 0 0] 38)).heap.size by first | (simp; done) | (simp; omega)
            have hlt5 : wc.heap.size < w5.heap.size := Nat.lt_of_lt_of_le hlB hb.size;have hlB1 : wc.heap.size + 1 < ((wc.alloc (.cells #[.slice none 0 0, .slice none 0 0, .int .i64 0, .bool false] 46)).alloc (.cells #[.int .i64 0, .int .i64 0, .int .i64 0, .int .i64 0, .int .i64 0, .slice none 0 0, .int .i64 0, .int .i64 0, .int .i64 0, .slice none 0 0, .int .i64 0, .string ⟨#[]⟩, .slice none 0 0, .slice none 0 0] 38)).drew.heap.size := show wc.heap.size + 1 < ((wc.alloc (.cells #[.slice none 0 0, .slice none 0 0, .int .i64 0, .bool false] 46)).alloc (.cells #[.int .i64 0, .int .i64 0, .int .i64 0, .int .i64 0, .int .i64 0, .slice none 0 0, .int .i64 0, .int .i64 0, .int .i64 0, .slice none 0 0, .int .i64 0, .string ⟨#[]⟩, .slice none 0 0, .slice none 0 0] 38)).heap.size by first | (simp; done) | (simp; omega)
            have hBB : wc.heap.size ≤ ((wc.alloc (.cells #[.slice none 0 0, .slice none 0 0, .int .i64 0, .bool false] 46)).alloc (.cells #[.int .i64 0, .int .i64 0, .int .i64 0, .int .i64 0, .int .i64 0, .slice none 0 0, .int .i64 0, .int .i64 0, .int .i64 0, .slice none 0 0, .int .i64 0, .string ⟨#[]⟩, .slice none 0 0, .slice none 0 0] 38)).drew.heap.size := Nat.le_of_lt hlB;have hq0 : w5.heap[wc.heap.size]? = some (.cells #[.slice none 0 0, .slice none 0 0, .int .i64 0, .bool false] 46 (0, 0)) := blkK (w := ((wc.alloc (.cells #[.slice none 0 0, .slice none 0 0, .int .i64 0, .bool false] 46)).alloc (.cells #[.int .i64 0, .int .i64 0, .int .i64 0, .int .i64 0, .int .i64 0, .slice none 0 0, .int .i64 0, .int .i64 0, .int .i64 0, .slice none 0 0, .int .i64 0, .string ⟨#[]⟩, .slice none 0 0, .slice none 0 0] 38)).drew) (blkK (heap_alloc_new wc _) (below1 _ _).drew) hb;have hp0 : w5.heap[wc.heap.size + 1]? = some (.cells #[.int .i64 0, .int .i64 0, .int .i64 0, .int .i64 0, .int .i64 0, .slice none 0 0, .int .i64 0, .int .i64 0, .int .i64 0, .slice none 0 0, .int .i64 0, .string ⟨#[]⟩, .slice none 0 0, .slice none 0 0] 38 (0, 0)) := blkK (w := ((wc.alloc (.cells #[.slice none 0 0, .slice none 0 0, .int .i64 0, .bool false] 46)).alloc (.cells #[.int .i64 0, .int .i64 0, .int .i64 0, .int .i64 0, .int .i64 0, .slice none 0 0, .int .i64 0, .int .i64 0, .int .i64 0, .slice none 0 0, .int .i64 0, .string ⟨#[]⟩, .slice none 0 0, .slice none 0 0] 38)).drew) (alloc2_new _ _ _ _) hb;have F := two_old (V := wc) (w5 := w5) #[.int .i64 X2.d.me, .int .i64 X2.d.n, .int .i64 X2.d.b.t, .int .i64 X2.d.b.v, .int .i64 X2.d.b.r, .slice X2.ba X2.d.b.l.length X2.bc, .int .i64 X2.d.ld, .int .i64 X2.d.L.bi, .int .i64 X2.d.L.bt, .slice X2.la X2.d.L.l.length X2.lc, .int .i64 X2.d.L.cm, .string X2.d.tx, .slice X2.na X2.d.nx.length X2.nc, .slice X2.ma X2.d.mt.length X2.mc] #[.slice X2.ra X2.R.length X2.rc, .slice X2.qa X2.M.length X2.qc, .int .i64 X2.ix, .bool X2.wt] hr hp0 hq0 (by omega) hlB1 hlB hbw (Nat.le_succ _) (Nat.le_refl _);obtain ⟨f1, f2, f3, f4⟩ := F.out;have HF1 := hideIt f1;have HF2 := hideIt f2;have HF3 := hideIt (f3.base hBB);have HF4 := hideIt f4;have HGP : Hid ((w5).heap[wc.heap.size + 1]? = some (.cells #[.int .i64 0, .int .i64 0, .int .i64 0, .int .i64 0, .int .i64 0, .slice none 0 0, .int .i64 0, .int .i64 0, .int .i64 0, .slice none 0 0, .int .i64 0, .string ⟨#[]⟩, .slice none 0 0, .slice none 0 0] 38 (0, 0))) := hideIt (hp0);have HGQ : Hid (((w5).setRow (wc.heap.size + 1) #[.int .i64 X2.d.me, .int .i64 X2.d.n, .int .i64 X2.d.b.t, .int .i64 X2.d.b.v, .int .i64 X2.d.b.r, .slice X2.ba X2.d.b.l.length X2.bc, .int .i64 X2.d.ld, .int .i64 X2.d.L.bi, .int .i64 X2.d.L.bt, .slice X2.la X2.d.L.l.length X2.lc, .int .i64 X2.d.L.cm, .string X2.d.tx, .slice X2.na X2.d.nx.length X2.nc, .slice X2.ma X2.d.mt.length X2.mc]).heap[wc.heap.size]? = some (.cells #[.slice none 0 0, .slice none 0 0, .int .i64 0, .bool false] 46 (0, 0))) := hideIt ((setRow_other _ _ _ _ (by omega)).trans (hq0));have HBW : Hid (Below wc.heap.size wc ((w5).setRow (wc.heap.size + 1) #[.int .i64 X2.d.me, .int .i64 X2.d.n, .int .i64 X2.d.b.t, .int .i64 X2.d.b.v, .int .i64 X2.d.b.r, .slice X2.ba X2.d.b.l.length X2.bc, .int .i64 X2.d.ld, .int .i64 X2.d.L.bi, .int .i64 X2.d.L.bt, .slice X2.la X2.d.L.l.length X2.lc, .int .i64 X2.d.L.cm, .string X2.d.tx, .slice X2.na X2.d.nx.length X2.nc, .slice X2.ma X2.d.mt.length X2.mc])) := hideIt (below_out (hbw) (setRow_out _ (wc.heap.size + 1) _) (fun k e => by omega));clear F f1 f2 f3 f4 hHeld;refine wpAnyH_ready (rs := [12]) (by kernel_rfl) (by simp) ?_;refine AllReadyH.cons (o := ⟨none, _, _, _, _, _⟩) rfl (fun Kx hK => ?_) AllReadyH.nil;refine step_store_rowK rfl 38 _ _ rfl (wc.heap.size + 1) #[.int .i64 X2.d.me, .int .i64 X2.d.n, .int .i64 X2.d.b.t, .int .i64 X2.d.b.v, .int .i64 X2.d.b.r, .slice X2.ba X2.d.b.l.length X2.bc, .int .i64 X2.d.ld, .int .i64 X2.d.L.bi, .int .i64 X2.d.L.bt, .slice X2.la X2.d.L.l.length X2.lc, .int .i64 X2.d.L.cm, .string X2.d.tx, .slice X2.na X2.d.nx.length X2.nc, .slice X2.ma X2.d.mt.length X2.mc] rfl rfl 38 _ HGP.out (by kernel_rfl) (by rfl) (by simp [Value.oneCell']) ?_;refine hK.out _ _ (HSC.out _ HBW.out) (fun hHeld => ?_);clear hK Kx
            try simp only [aP, aQ, aA, aB, aC]
            refine wpAnyH_ready (rs := [13]) (by kernel_rfl) (by simp) ?_;refine AllReadyH.cons (o := ⟨none, _, _, _, _, _⟩) rfl (fun Kx hK => ?_) AllReadyH.nil;refine step_store_rowK rfl 46 _ _ rfl (wc.heap.size) #[.slice X2.ra X2.R.length X2.rc, .slice X2.qa X2.M.length X2.qc, .int .i64 X2.ix, .bool X2.wt] rfl rfl 46 _ HGQ.out (by kernel_rfl) (by rfl) (by simp [Value.oneCell']) ?_;refine hK.out _ _ (HSC.out _ HF4.out) (fun hHeld => ?_);clear hK Kx
            try simp only [aP, aQ, aA, aB, aC]
            refine wpAnyH_take (i := 14) (oi := ⟨some 14, _, _, _, _, _⟩) (v := ?_) rfl (by kernel_rfl) (by kernel_rfl) (by kernel_rfl) (fun _ _ _ h => h) (Or.inl ⟨by rfl, ?_⟩) (by assumption) ?_
            rotate_left
            ·intro w5 hSw
             (try dsimp only at hSw)
             go_simp
             (try with_reducible rfl)
            try simp only [aP, aQ, aA, aB, aC]
            refine wpAnyH_done (by kernel_rfl) ?_ _;clear hHeld
            go_wp2_with fail
            go_meet
            exact ⟨_, _, X2, rfl, rfl, rfl, hideIt ⟨HF1.out, HF2.out, hv, HF3.out, HF4.out⟩⟩
        case rest =>
         obtain ⟨p2, q2, X2, rfl, rfl, rfl, HC⟩ := hcut;clear HCM HSC;obtain ⟨g1, g2, g3, g4⟩ := HAH.out;obtain ⟨c1, c2, c3, c4, c5⟩ := HC.out;rw [← c3] at g2 g3 g4;have k2 : X2.R.length = 0 := by
          have h : (X2.R.map RecX.r) = [] := g2
          simpa using congrArg List.length h
         have k3 : X2.M.length = X'.M.length := by
          have h : (X2.M.map MsgX.m).length = (X'.M.map MsgX.m).length := g3
          simpa using h
         have k4 : X2.d.L = X'.d.L := g4;have HSM : Hid (∀ W, Below wc.heap.size wc W → Calls Tryz.prog 17 #[logV X'.d.L X2.gl, logV X'.d.L X'.gl] W fun e w' => e = .returned (.bool true) ∧ Below W.heap.size W w') := hideIt (fun W hW => same_is X'.d.L X2.gl X'.gl W (by
          have h := (c4.keep hW).node.l
          rwa [k4] at h) (HR1.out.keep (below_via c5 hW)).node.l)
         obtain ⟨⟨m0, m1, m2, m3, m4, m5, m6, m7, m8, m9, m10, m11, m12, m13⟩, mf, mz⟩ := at14 (blkK HP1.out c5);obtain ⟨⟨n0, n1, n2, n3, n4, n5, n6, n7, n8, n9, n10, n11, n12, n13⟩, nf, nz⟩ := at14 c1;obtain ⟨⟨o0, o1, o2, o3⟩, of, oz⟩ := at4 (blkK HQ1.out c5);obtain ⟨⟨u0, u1, u2, u3⟩, uf, uz⟩ := at4 c2;rw [k2] at u0;rw [k3] at u1;rw [k4] at n7 n8 n9 n10;have HB6 := hideIt c5;unfold WkX.gl logV at HSM;rw [k4] at HSM;rw [g1];clear c1 c2 c3 c4 c5 HC g1 g2 g3 g4 HAH k2 k3 k4
         go_wp2_with fail
         refine (HSM.out _ (Below.refl _ _)).mono ?_;rintro r w9 ⟨rfl, hb9⟩;dsimp only;have HB9 := hideIt (below_via HB6.out hb9);clear m0 m1 m2 m3 m4 m5 m6 m7 m8 m9 m10 m11 m12 m13 mf mz n0 n1 n2 n3 n4 n5 n6 n7 n8 n9 n10 n11 n12 n13 nf nz o0 o1 o2 o3 of oz u0 u1 u2 u3 uf uz HSM;obtain ⟨⟨m0, m1, m2, m3, m4, m5, m6, m7, m8, m9, m10, m11, m12, m13⟩, mf, mz⟩ := at14 (blkK HP1.out HB9.out)
         go_upto_region 6 with (refine wpList_store_row rfl 38 _ _ rfl N #[.int .i64 X'.d.me, .int .i64 X'.d.n, .int .i64 X'.d.b.t, .int .i64 X'.d.b.v, .int .i64 X'.d.b.r, .slice X'.ba X'.d.b.l.length X'.bc, .int .i64 X'.d.ld, .int .i64 X'.d.L.bi, .int .i64 X'.d.L.bt, .slice X'.la X'.d.L.l.length X'.lc, .int .i64 X'.d.L.cm, .string X'.d.tx, .slice X'.na X'.d.nx.length X'.nc, .slice X'.ma X'.d.mt.length X'.mc] rfl rfl 38 _ (blkK HNZ.out HB9.out) (by kernel_rfl) (by rfl) (by simp [Value.oneCell']) ?_)
         go_wp2
         go_roundw
         case rel => exact ⟨t + 1, X'.d, X'.gb, X'.gl, X'.gn, X'.gm, by omega, by go_num, hideIt ⟨⟨setRow_heap _ N _ _ _ _ (blkK HNZ.out HB9.out), ((HR1.out.keep HB9.out).row _ hNlt).node, HI2.out, below_out (below_via HHB.out (below_via HB5.out HB9.out)) (setRow_out _ N _) (fun k e => by omega), HHN.out⟩, (setRow_other _ N _ _ (by omega)).trans (blkK HBZ.out HB9.out), hxN, HME.out.1, HME.out.2⟩⟩
         case measure => simp [intOf]; omega
       ·by_cases hk2 : x.e.kind = 3
        ·have q1 : decide (x.e.m.kind = 3) = false := decide_eq_false (fun h => hk1 ⟨hk2, h⟩);have q2 : (x.e.m.kind == 3) = false := beq_eq_false_iff_ne.2 (fun h => hk1 ⟨hk2, h⟩);rw [hk2] at e0;clear HAG hk1 hk2
         go_upto_region 6 with (refine wpList_store_row rfl 38 _ _ rfl N #[.int .i64 X'.d.me, .int .i64 X'.d.n, .int .i64 X'.d.b.t, .int .i64 X'.d.b.v, .int .i64 X'.d.b.r, .slice X'.ba X'.d.b.l.length X'.bc, .int .i64 X'.d.ld, .int .i64 X'.d.L.bi, .int .i64 X'.d.L.bt, .slice X'.la X'.d.L.l.length X'.lc, .int .i64 X'.d.L.cm, .string X'.d.tx, .slice X'.na X'.d.nx.length X'.nc, .slice X'.ma X'.d.mt.length X'.mc] rfl rfl 38 _ (blkK HNZ.out (Below.refl _ _)) (by kernel_rfl) (by rfl) (by simp [Value.oneCell']) ?_)
         go_wp2
         go_roundw
         case rel => exact ⟨t + 1, X'.d, X'.gb, X'.gl, X'.gn, X'.gm, by omega, by go_num, hideIt ⟨⟨setRow_heap _ N _ _ _ _ (blkK HNZ.out (Below.refl _ _)), ((HR1.out.keep (Below.refl _ _)).row _ hNlt).node, HI2.out, below_out (below_via HHB.out (below_via HB5.out (Below.refl _ _))) (setRow_out _ N _) (fun k e => by omega), HHN.out⟩, (setRow_other _ N _ _ (by omega)).trans (blkK HBZ.out (Below.refl _ _)), hxN, HME.out.1, HME.out.2⟩⟩
         case measure => simp [intOf]; omega
        ·have q1 : decide (x.e.kind = 3) = false := decide_eq_false hk2;have q2 : (x.e.kind == 3) = false := beq_eq_false_iff_ne.2 hk2;clear HAG hk1 hk2
         go_upto_region 6 with (refine wpList_store_row rfl 38 _ _ rfl N #[.int .i64 X'.d.me, .int .i64 X'.d.n, .int .i64 X'.d.b.t, .int .i64 X'.d.b.v, .int .i64 X'.d.b.r, .slice X'.ba X'.d.b.l.length X'.bc, .int .i64 X'.d.ld, .int .i64 X'.d.L.bi, .int .i64 X'.d.L.bt, .slice X'.la X'.d.L.l.length X'.lc, .int .i64 X'.d.L.cm, .string X'.d.tx, .slice X'.na X'.d.nx.length X'.nc, .slice X'.ma X'.d.mt.length X'.mc] rfl rfl 38 _ (blkK HNZ.out (Below.refl _ _)) (by kernel_rfl) (by rfl) (by simp [Value.oneCell']) ?_)
         go_wp2
         go_roundw
         case rel => exact ⟨t + 1, X'.d, X'.gb, X'.gl, X'.gn, X'.gm, by omega, by go_num, hideIt ⟨⟨setRow_heap _ N _ _ _ _ (blkK HNZ.out (Below.refl _ _)), ((HR1.out.keep (Below.refl _ _)).row _ hNlt).node, HI2.out, below_out (below_via HHB.out (below_via HB5.out (Below.refl _ _))) (setRow_out _ N _) (fun k e => by omega), HHN.out⟩, (setRow_other _ N _ _ (by omega)).trans (blkK HBZ.out (Below.refl _ _)), hxN, HME.out.1, HME.out.2⟩⟩
         case measure => simp [intOf]; omega
      ·have hd3 : decide ((stepN d x.e).2 = 0) = false := decide_eq_false hs;generalize (stepN d x.e).2 = er2 at *;go_wp2
       all_goals go_roundw
       case rel => exact ⟨t + 1, d, gb, gl, gn, gm, by omega, by go_num, hideIt ⟨⟨(HSB.out _ HC.out.2.2.2.2).1, HHA.out.keep HC.out.2.2.2.2, HHI.out, below_via HHB.out HC.out.2.2.2.2, HHN.out⟩, blkK HBX.out HC.out.2.2.2.2, hxN, HMN.out.1, HMN.out.2⟩⟩
       case measure => simp [intOf]; omega
    ·have hd2 : decide ((t : Int) < 40) = false := decide_eq_false h40;have HB7 := hideIt HX.out.nin.bel
     go_wp2_with fail
     refine (live_is _).mono ?_;rintro r w3 ⟨rfl, hb3⟩;go_wp2;go_ret
     exact ⟨rfl, below_via HB7.out hb3⟩
   ·have hd1 : decide ((t : Int) < (ev.length : Int)) = false := decide_eq_false (by omega);have HB7 := hideIt HX.out.nin.bel
    go_wp2_with fail
    refine (live_is _).mono ?_;rintro r w3 ⟨rfl, hb3⟩;go_wp2;go_ret
    exact ⟨rfl, below_via HB7.out hb3⟩
 ·have hd0 : decide (er = 0) = false := decide_eq_false h0;clear HN1 HND HIN
  go_wp2_with fail
  refine (live_is _).mono ?_;rintro r w3 ⟨rfl, hb3⟩;go_wp2;go_ret
  exact ⟨rfl, below_via HB1.out hb3⟩
end Go.Proofs.YtcaehfkfohianaaGreat
