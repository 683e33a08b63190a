/- Texts of my own, laid together. -/
import Derived.Test.YtcaehfkfohianaaGreatPx22
set_option linter.all false
namespace Go.Proofs.YtcaehfkfohianaaGreat
open Go.RowKit
set_option maxRecDepth 100000 in
set_option maxHeartbeats 16000000 in
theorem firm_is (me n t0 v si st : Int) (tx : ByteArray) (l : List EntV) (gl0 ge : Value) (ev : List EvX) (w : World) (hl : EGot w gl0 l) (ht : tx.size ≤ 140737488355328) (he : EvsGot w ge ev) : Calls Tryz.prog 3 #[.agg #[.int .i64 me, .int .i64 n, .int .i64 t0, .int .i64 v, .int .i64 si, .int .i64 st, .string tx, gl0], ge] w fun e w' => e = .returned (.bool true) ∧ Below w.heap.size w w' := by
 have hb0 := below1 w (.cells #[.int .i64 me, .int .i64 n, .int .i64 t0, .int .i64 v, .int .i64 si, .int .i64 st, .string tx, gl0] 30);have HS := hideIt (startN_is me n t0 v si st tx l gl0 (w.alloc (.cells #[.int .i64 me, .int .i64 n, .int .i64 t0, .int .i64 v, .int .i64 si, .int .i64 st, .string tx, gl0] 30)) (hl.keep hb0) ht);have HP := hideIt (heap_alloc_new w (.cells #[.int .i64 me, .int .i64 n, .int .i64 t0, .int .i64 v, .int .i64 si, .int .i64 st, .string tx, gl0] 30));have HB0 := hideIt hb0;have HSI := hideIt (start_go (me := me) (n := n) (t := t0) (v := v) (si := si) (st := st) (tx := tx) (l := l));obtain ⟨lo, lc0, rfl⟩ : ∃ a c, gl0 = .slice a l.length c := by
  obtain ⟨_, a, c, e, _⟩ := hl
  exact ⟨a, c, e⟩
 obtain ⟨ea, ec, rfl, ⟨hec1, hec2⟩, her⟩ := he;have HER := hideIt her;clear hb0 hl ht her;generalize startN me n t0 v si st tx l = Z at *;obtain ⟨d, er⟩ := Z;dsimp only at HS HSI
 go_enter Tryz.func3, Tryz.ntmps3
 go_upto_region 1 with fail
 generalize (World.alloc w _) = W0 at *;have p0 : W0.cell? ⟨w.heap.size, 0, none⟩ = some (.int .i64 me) := by rw [Tm.cell_at HP.out]; rfl
 have p1 : W0.cell? ⟨w.heap.size, 1, none⟩ = some (.int .i64 n) := by rw [Tm.cell_at HP.out]; rfl
 have p2 : W0.cell? ⟨w.heap.size, 2, none⟩ = some (.int .i64 t0) := by rw [Tm.cell_at HP.out]; rfl
 have p3 : W0.cell? ⟨w.heap.size, 3, none⟩ = some (.int .i64 v) := by rw [Tm.cell_at HP.out]; rfl
 have p4 : W0.cell? ⟨w.heap.size, 4, none⟩ = some (.int .i64 si) := by rw [Tm.cell_at HP.out]; rfl
 have p5 : W0.cell? ⟨w.heap.size, 5, none⟩ = some (.int .i64 st) := by rw [Tm.cell_at HP.out]; rfl
 have p6 : W0.cell? ⟨w.heap.size, 6, none⟩ = some (.string tx) := by rw [Tm.cell_at HP.out]; rfl
 have p7 : W0.cell? ⟨w.heap.size, 7, none⟩ = some (.slice lo l.length lc0) := by rw [Tm.cell_at HP.out]; rfl
 go_wp2_with fail
 refine HS.out.mono ?_;rintro r w1 ⟨gb, gl, gn, gm, rfl, ho, hb1⟩;dsimp only;clear p0 p1 p2 p3 p4 p5 p6 p7 HS HP;obtain ⟨ba, bc, rfl⟩ := Tm.own_len ho.b;obtain ⟨la, lc, rfl⟩ := own_len ho.l;obtain ⟨na, nc, rfl⟩ := Tm.own_len ho.n;obtain ⟨ma, mc, rfl⟩ := Tm.own_len ho.m;have hbn := below1 w1 (.cells #[.int .i64 d.me, .int .i64 d.n, .int .i64 d.b.t, .int .i64 d.b.v, .int .i64 d.b.r, .slice ba d.b.l.length bc, .int .i64 d.ld, .int .i64 d.L.bi, .int .i64 d.L.bt, .slice la d.L.l.length lc, .int .i64 d.L.cm, .string d.tx, .slice na d.nx.length nc, .slice ma d.mt.length mc] 38);have HB1 := hideIt (below_via (below_via HB0.out hb1) hbn);have HN1 := hideIt (heap_alloc_new w1 (.cells #[.int .i64 d.me, .int .i64 d.n, .int .i64 d.b.t, .int .i64 d.b.v, .int .i64 d.b.r, .slice ba d.b.l.length bc, .int .i64 d.ld, .int .i64 d.L.bi, .int .i64 d.L.bt, .slice la d.L.l.length lc, .int .i64 d.L.cm, .string d.tx, .slice na d.nx.length nc, .slice ma d.mt.length mc] 38));have HND := hideIt (fun (h0 : er = 0) => start_at ho (HSI.out h0).1 (HSI.out h0).2 hbn);have HIN := hideIt (fun (h0 : er = 0) => (HSI.out h0).1);have hsz : w.heap.size ≤ w1.heap.size := by have h1 := HB0.out.size; have h2 := hb1.size; omega
 clear ho hb1 hbn HB0 HSI;unfold nodA
 go_upto_region 2 with (refine wpList_store_row rfl 38 _ _ rfl w1.heap.size #[.int .i64 d.me, .int .i64 d.n, .int .i64 d.b.t, .int .i64 d.b.v, .int .i64 d.b.r, .slice ba d.b.l.length bc, .int .i64 d.ld, .int .i64 d.L.bi, .int .i64 d.L.bt, .slice la d.L.l.length lc, .int .i64 d.L.cm, .string d.tx, .slice na d.nx.length nc, .slice ma d.mt.length mc] rfl rfl 38 #[.int .i64 0, .int .i64 0, .int .i64 0, .int .i64 0, .int .i64 0, .slice none 0 0, .int .i64 0, .int .i64 0, .int .i64 0, .slice none 0 0, .int .i64 0, .string ⟨#[]⟩, .slice none 0 0, .slice none 0 0] (heap_alloc_new w1 _) (by kernel_rfl) (by rfl) (by simp [Value.oneCell']) ?_; rw [World.setRow_alloc_new])
 generalize (World.alloc w1 _) = W1 at *;generalize w1.heap.size = N at *
 by_cases h0 : er = 0
 ·subst h0;have HX0 : Hid (NIn w N d (.slice ba d.b.l.length bc) (.slice la d.L.l.length lc) (.slice na d.nx.length nc) (.slice ma d.mt.length mc) W1) := hideIt ⟨HN1.out, HND.out rfl, HIN.out rfl, HB1.out, hsz⟩;clear HN1 HND HIN HB1
  go_upto_region 4 with fail
  go_wp2_with fail
  go_loopw [7] (fun i wr => ∃ (t : Nat) (d : NodeV) (gb gl gn gm : Value), t ≤ ev.length ∧ i = .int .i64 (t : Int) ∧ Hid (NIn w N d gb gl gn gm wr)) (fun i _ => ev.length - (intOf i).toNat)
  case atStart => exact ⟨0, d, _, _, _, _, Nat.zero_le _, rfl, HX0⟩
  case round =>
   obtain ⟨t, d, gb, gl, gn, gm, ht, rfl, HX⟩ := hrel;clear HX0;have ht0 : (0 : Int) ≤ (t : Int) := by omega
   by_cases hlt : t < ev.length
   ·have hlt' : (t : Int) < (ev.length : Int) := by omega
    have hd1 : decide ((t : Int) < (ev.length : Int)) = true := decide_eq_true hlt'
    by_cases h40 : (t : Int) < 40
    ·have hd2 : decide ((t : Int) < 40) = true := decide_eq_true h40;obtain ⟨eb, off, rfl, hev0⟩ := HER.out t hlt;generalize ev.getD t zEv = x at *;have hev := hev0.keep HX.out.bel;have HSB : Hid (∀ W, Below wr.heap.size wr W → W.heap[N]? = some (.cells #[.int .i64 d.me, .int .i64 d.n, .int .i64 d.b.t, .int .i64 d.b.v, .int .i64 d.b.r, gb, .int .i64 d.ld, .int .i64 d.L.bi, .int .i64 d.L.bt, gl, .int .i64 d.L.cm, .string d.tx, gn, gm] 38 (0, 0)) ∧ EvAt W eb (off + t * 16) x) := hideIt (fun W hW => ⟨blkK HX.out.box hW, hev.keep hW⟩);have HCL : Hid (∀ W, Below wr.heap.size wr W → Calls Tryz.prog 11 #[.agg #[.int .i64 d.me, .int .i64 d.n, .int .i64 d.b.t, .int .i64 d.b.v, .int .i64 d.b.r, gb, .int .i64 d.ld, .int .i64 d.L.bi, .int .i64 d.L.bt, gl, .int .i64 d.L.cm, .string d.tx, gn, gm], .agg #[.int .i64 x.e.kind, .int .i64 x.e.idx, .string x.e.tx, .int .i64 x.e.m.kind, .int .i64 x.e.m.frm, .int .i64 x.e.m.dst, .int .i64 x.e.m.term, .int .i64 x.e.m.pi, .int .i64 x.e.m.pt, .slice x.a x.e.m.es.length x.c, .int .i64 x.e.m.cm, .bool x.e.m.ok, .int .i64 x.e.m.mtch, .int .i64 x.e.m.si, .int .i64 x.e.m.st, .string x.e.m.tx]] W fun r w' => ∃ X' : WkX, r = .returned (.tuple #[.agg #[.int .i64 X'.d.me, .int .i64 X'.d.n, .int .i64 X'.d.b.t, .int .i64 X'.d.b.v, .int .i64 X'.d.b.r, .slice X'.ba X'.d.b.l.length X'.bc, .int .i64 X'.d.ld, .int .i64 X'.d.L.bi, .int .i64 X'.d.L.bt, .slice X'.la X'.d.L.l.length X'.lc, .int .i64 X'.d.L.cm, .string X'.d.tx, .slice X'.na X'.d.nx.length X'.nc, .slice X'.ma X'.d.mt.length X'.mc], .agg #[.slice X'.ra X'.R.length X'.rc, .slice X'.qa X'.M.length X'.qc, .int .i64 X'.ix, .bool X'.wt], .int .i64 (stepN d x.e).2]) ∧ X'.v = (stepN d x.e).1 ∧ WR W.heap.size w' X' ∧ Below W.heap.size W w') := hideIt (fun W hW => stepK_is d gb gl gn gm x.e x.a x.c W (HX.out.at_.keep hW) (hev.keep hW).es HX.out.inv hev.k);have hNlt : N < wr.heap.size := (Array.getElem?_eq_some_iff.1 HX.out.box).1;have HHI := hideIt HX.out.inv;have HHB := hideIt HX.out.bel;have HHA := hideIt HX.out.at_;have HHN := hideIt HX.out.hN;clear HX hev hev0 hd1 hd2
     go_upto_region 7 with fail
     go_cut [8, 9, 10] from 41 to 50 (fun a b c wy => ∃ p q X', a = .pointer (some ⟨p, 0, none⟩) ∧ b = .pointer (some ⟨q, 0, none⟩) ∧ c = .int .i64 (stepN d x.e).2 ∧ Hid (wy.heap[p]? = some (.cells #[.int .i64 X'.d.me, .int .i64 X'.d.n, .int .i64 X'.d.b.t, .int .i64 X'.d.b.v, .int .i64 X'.d.b.r, .slice X'.ba X'.d.b.l.length X'.bc, .int .i64 X'.d.ld, .int .i64 X'.d.L.bi, .int .i64 X'.d.L.bt, .slice X'.la X'.d.L.l.length X'.lc, .int .i64 X'.d.L.cm, .string X'.d.tx, .slice X'.na X'.d.nx.length X'.nc, .slice X'.ma X'.d.mt.length X'.mc] 38 (0, 0)) ∧ wy.heap[q]? = some (.cells #[.slice X'.ra X'.R.length X'.rc, .slice X'.qa X'.M.length X'.qc, .int .i64 X'.ix, .bool X'.wt] 46 (0, 0)) ∧ X'.v = (stepN d x.e).1 ∧ WR wr.heap.size wy X' ∧ Below wr.heap.size wr wy))
     case first =>
      refine wp_region_held_drew (S := fun W => W.heap[N]? = some (.cells #[.int .i64 d.me, .int .i64 d.n, .int .i64 d.b.t, .int .i64 d.b.v, .int .i64 d.b.r, gb, .int .i64 d.ld, .int .i64 d.L.bi, .int .i64 d.L.bt, gl, .int .i64 d.L.cm, .string d.tx, gn, gm] 38 (0, 0)) ∧ EvAt W eb (off + t * 16) x) (by rfl) (HSB.out _ (Below.refl _ _).drew) (fun hHeld => ?_);refine wpAnyH_take (i := 0) (oi := ⟨some 42, _, _, _, _, _⟩) (v := ?_) rfl (by kernel_rfl) (by kernel_rfl) (by kernel_rfl) (fun _ _ _ h => h) (Or.inl ⟨by rfl, ?_⟩) (by assumption) ?_
      rotate_left
      ·intro w5 hSw;obtain ⟨⟨d0, d1, d2, d3, d4, d5, d6, d7, d8, d9, d10, d11, d12, d13⟩, df, dz⟩ := at14 hSw.1;go_simp
       (try with_reducible rfl)
      try simp only [Act.put, List.setIfInBounds_toArray, List.set_cons_zero, List.set_cons_succ]
      refine wpAnyH_take (i := 1) (oi := ⟨some 43, _, _, _, _, _⟩) (v := ?_) rfl (by kernel_rfl) (by kernel_rfl) (by kernel_rfl) (fun _ _ _ h => h) (Or.inl ⟨by rfl, ?_⟩) (by assumption) ?_
      rotate_left
      ·intro w5 hSw
       (try dsimp only at hSw)
       go_simp
       (try with_reducible rfl)
      try simp only [Act.put, List.setIfInBounds_toArray, List.set_cons_zero, List.set_cons_succ]
      refine wpAnyH_take (i := 2) (oi := ⟨some 44, _, _, _, _, _⟩) (v := ?_) rfl (by kernel_rfl) (by kernel_rfl) (by kernel_rfl) (fun _ _ _ h => h) (Or.inl ⟨by rfl, ?_⟩) (by assumption) ?_
      rotate_left
      ·intro w5 hSw
       (try dsimp only at hSw)
       go_simp
       (try with_reducible rfl)
      try simp only [Act.put, List.setIfInBounds_toArray, List.set_cons_zero, List.set_cons_succ]
      refine wpAnyH_take (i := 3) (oi := ⟨some 45, _, _, _, _, _⟩) (v := ?_) rfl (by kernel_rfl) (by kernel_rfl) (by kernel_rfl) (fun _ _ _ h => h) (Or.inl ⟨by rfl, ?_⟩) (by assumption) ?_
      rotate_left
      ·intro w5 hSw
       (try dsimp only at hSw)
       go_simp
       (try with_reducible rfl)
      try simp only [Act.put, List.setIfInBounds_toArray, List.set_cons_zero, List.set_cons_succ]
      refine wpAnyH_take (i := 4) (oi := ⟨some 46, _, _, _, _, _⟩) (v := ?_) rfl (by kernel_rfl) (by kernel_rfl) (by kernel_rfl) (fun _ _ _ h => h) (Or.inl ⟨by rfl, ?_⟩) (by assumption) ?_
      rotate_left
      ·intro w5 hSw;have c0 := hSw.2.c0; have c1 := hSw.2.c1; have c2 := hSw.2.c2; have c3 := hSw.2.c3; have c4 := hSw.2.c4; have c5 := hSw.2.c5; have c6 := hSw.2.c6; have c7 := hSw.2.c7; have c8 := hSw.2.c8; have c9 := hSw.2.c9; have c10 := hSw.2.c10; have c11 := hSw.2.c11; have c12 := hSw.2.c12; have c13 := hSw.2.c13; have c14 := hSw.2.c14; have c15 := hSw.2.c15
       go_simp
       (try with_reducible rfl)
      try simp only [Act.put, List.setIfInBounds_toArray, List.set_cons_zero, List.set_cons_succ]
      refine wpAnyH_ready (rs := [5, 10, 11]) (by kernel_rfl) (by simp) ?_;refine (AllReadyH.cons (o := ⟨some 47, _, _, _, _, _⟩) rfl (fun Kx hK => ?_) (AllReadyH.cons (o := ⟨some 8, _, _, _, _, _⟩) rfl (fun Kx hK => ?_) (AllReadyH.cons (o := ⟨some 9, _, _, _, _, _⟩) rfl (fun Kx hK => ?_) AllReadyH.nil)))
      ·go_simp
       go_at_call 11
       refine (HCL.out _ (by first | exact (Below.refl _ _).drew | exact (below1 _ _).drew | exact below_via (Below.refl _ _).drew (below1 _ _) | exact (below_via (below1 _ _) (below1 _ _)).drew | exact below_via (below_via (Below.refl _ _).drew (below1 _ _)) (below1 _ _))).mono ?_;rintro r w5 ⟨X', rfl, hv, hr, hb⟩;have hbw : Below wr.heap.size wr w5 := below_via (by first | exact (Below.refl _ _).drew | exact (below1 _ _).drew | exact below_via (Below.refl _ _).drew (below1 _ _) | exact (below_via (below1 _ _) (below1 _ _)).drew | exact below_via (below_via (Below.refl _ _).drew (below1 _ _)) (below1 _ _)) hb;refine hK.out _ _ (HSB.out _ hbw) (fun hHeld => ?_);clear hK Kx
       try simp only [Act.put, List.setIfInBounds_toArray, List.set_cons_zero, List.set_cons_succ]
       refine wpAnyH_take (i := 6) (oi := ⟨some 41, _, _, _, _, _⟩) (v := ?_) rfl (by kernel_rfl) (by kernel_rfl) (by kernel_rfl) (fun _ _ _ h => h) (Or.inl ⟨by rfl, ?_⟩) (by assumption) ?_
       rotate_left
       ·intro w5 hSw
        (try dsimp only at hSw)
        go_simp
        (try with_reducible rfl)
       try simp only [Act.put, List.setIfInBounds_toArray, List.set_cons_zero, List.set_cons_succ]
       refine wpAnyH_take (i := 7) (oi := ⟨some 48, _, _, _, _, _⟩) (v := ?_) rfl (by kernel_rfl) (by kernel_rfl) (by kernel_rfl) (fun _ _ _ h => h) (Or.inl ⟨by rfl, ?_⟩) (by assumption) ?_
       rotate_left
       ·intro w5 hSw
        (try dsimp only at hSw)
        go_simp
        (try with_reducible rfl)
       try simp only [Act.put, List.setIfInBounds_toArray, List.set_cons_zero, List.set_cons_succ]
       refine wpAnyH_take (i := 8) (oi := ⟨some 49, _, _, _, _, _⟩) (v := ?_) rfl (by kernel_rfl) (by kernel_rfl) (by kernel_rfl) (fun _ _ _ h => h) (Or.inl ⟨by rfl, ?_⟩) (by assumption) ?_
       rotate_left
       ·intro w5 hSw
        (try dsimp only at hSw)
        go_simp
        (try with_reducible rfl)
       try simp only [Act.put, List.setIfInBounds_toArray, List.set_cons_zero, List.set_cons_succ]
       refine wpAnyH_take (i := 9) (oi := ⟨some 50, _, _, _, _, _⟩) (v := ?_) rfl (by kernel_rfl) (by kernel_rfl) (by kernel_rfl) (fun _ _ _ h => h) (Or.inl ⟨by rfl, ?_⟩) (by assumption) ?_
       rotate_left
       ·intro w5 hSw
        (try dsimp only at hSw)
        go_simp
        (try with_reducible rfl)
       try simp only [Act.put, List.setIfInBounds_toArray, List.set_cons_zero, List.set_cons_succ]
       refine wpAnyH_ready (rs := [10, 11]) (by kernel_rfl) (by simp) ?_;refine (AllReadyH.cons (o := ⟨some 8, _, _, _, _, _⟩) rfl (fun Kx hK => ?_) (AllReadyH.cons (o := ⟨some 9, _, _, _, _, _⟩) rfl (fun Kx hK => ?_) AllReadyH.nil))
       ·go_simp;refine hK.out _ _ (HSB.out _ (below_via hbw (below1 _ _))) (fun hHeld => ?_);clear hK Kx
        try simp only [Act.put, List.setIfInBounds_toArray, List.set_cons_zero, List.set_cons_succ]
        refine wpAnyH_ready (rs := [11]) (by kernel_rfl) (by simp) ?_;refine (AllReadyH.cons (o := ⟨some 9, _, _, _, _, _⟩) rfl (fun Kx hK => ?_) AllReadyH.nil)
        ·go_simp;refine hK.out _ _ (HSB.out _ (below_via (below_via hbw (below1 _ _)) (below1 _ _))) (fun hHeld => ?_);clear hK Kx
         try simp only [Act.put, List.setIfInBounds_toArray, List.set_cons_zero, List.set_cons_succ]
         have hws : wr.heap.size ≤ w5.heap.size := hbw.size;have hBB : wr.heap.size ≤ wr.drew.heap.size := Nat.le_refl _;have F := two_new (V := wr) (w5 := w5) #[.int .i64 X'.d.me, .int .i64 X'.d.n, .int .i64 X'.d.b.t, .int .i64 X'.d.b.v, .int .i64 X'.d.b.r, .slice X'.ba X'.d.b.l.length X'.bc, .int .i64 X'.d.ld, .int .i64 X'.d.L.bi, .int .i64 X'.d.L.bt, .slice X'.la X'.d.L.l.length X'.lc, .int .i64 X'.d.L.cm, .string X'.d.tx, .slice X'.na X'.d.nx.length X'.nc, .slice X'.ma X'.d.mt.length X'.mc] #[.slice X'.ra X'.R.length X'.rc, .slice X'.qa X'.M.length X'.qc, .int .i64 X'.ix, .bool X'.wt] #[.int .i64 0, .int .i64 0, .int .i64 0, .int .i64 0, .int .i64 0, .slice none 0 0, .int .i64 0, .int .i64 0, .int .i64 0, .slice none 0 0, .int .i64 0, .string ⟨#[]⟩, .slice none 0 0, .slice none 0 0] #[.slice none 0 0, .slice none 0 0, .int .i64 0, .bool false] hr hbw;obtain ⟨f1, f2, f3, f4⟩ := F.out;have HF1 := hideIt f1;have HF2 := hideIt f2;have HF3 := hideIt (f3.base hBB);have HF4 := hideIt f4;have HGP : Hid ((((w5.alloc (.cells #[.int .i64 0, .int .i64 0, .int .i64 0, .int .i64 0, .int .i64 0, .slice none 0 0, .int .i64 0, .int .i64 0, .int .i64 0, .slice none 0 0, .int .i64 0, .string ⟨#[]⟩, .slice none 0 0, .slice none 0 0] 38)).alloc (.cells #[.slice none 0 0, .slice none 0 0, .int .i64 0, .bool false] 46))).heap[w5.heap.size]? = some (.cells #[.int .i64 0, .int .i64 0, .int .i64 0, .int .i64 0, .int .i64 0, .slice none 0 0, .int .i64 0, .int .i64 0, .int .i64 0, .slice none 0 0, .int .i64 0, .string ⟨#[]⟩, .slice none 0 0, .slice none 0 0] 38 (0, 0))) := hideIt (blkK (heap_alloc_new w5 _) (below1 _ _));have HGQ : Hid (((((w5.alloc (.cells #[.int .i64 0, .int .i64 0, .int .i64 0, .int .i64 0, .int .i64 0, .slice none 0 0, .int .i64 0, .int .i64 0, .int .i64 0, .slice none 0 0, .int .i64 0, .string ⟨#[]⟩, .slice none 0 0, .slice none 0 0] 38)).alloc (.cells #[.slice none 0 0, .slice none 0 0, .int .i64 0, .bool false] 46))).setRow (w5.heap.size) #[.int .i64 X'.d.me, .int .i64 X'.d.n, .int .i64 X'.d.b.t, .int .i64 X'.d.b.v, .int .i64 X'.d.b.r, .slice X'.ba X'.d.b.l.length X'.bc, .int .i64 X'.d.ld, .int .i64 X'.d.L.bi, .int .i64 X'.d.L.bt, .slice X'.la X'.d.L.l.length X'.lc, .int .i64 X'.d.L.cm, .string X'.d.tx, .slice X'.na X'.d.nx.length X'.nc, .slice X'.ma X'.d.mt.length X'.mc]).heap[w5.heap.size + 1]? = some (.cells #[.slice none 0 0, .slice none 0 0, .int .i64 0, .bool false] 46 (0, 0))) := hideIt ((setRow_other _ _ _ _ (by omega)).trans (alloc2_new _ _ _ _));have HBW : Hid (Below wr.heap.size wr ((((w5.alloc (.cells #[.int .i64 0, .int .i64 0, .int .i64 0, .int .i64 0, .int .i64 0, .slice none 0 0, .int .i64 0, .int .i64 0, .int .i64 0, .slice none 0 0, .int .i64 0, .string ⟨#[]⟩, .slice none 0 0, .slice none 0 0] 38)).alloc (.cells #[.slice none 0 0, .slice none 0 0, .int .i64 0, .bool false] 46))).setRow (w5.heap.size) #[.int .i64 X'.d.me, .int .i64 X'.d.n, .int .i64 X'.d.b.t, .int .i64 X'.d.b.v, .int .i64 X'.d.b.r, .slice X'.ba X'.d.b.l.length X'.bc, .int .i64 X'.d.ld, .int .i64 X'.d.L.bi, .int .i64 X'.d.L.bt, .slice X'.la X'.d.L.l.length X'.lc, .int .i64 X'.d.L.cm, .string X'.d.tx, .slice X'.na X'.d.nx.length X'.nc, .slice X'.ma X'.d.mt.length X'.mc])) := hideIt (below_out (below_via (below_via hbw (below1 _ _)) (below1 _ _)) (setRow_out _ (w5.heap.size) _) (fun k e => by omega));clear F f1 f2 f3 f4 hHeld;refine wpAnyH_ready (rs := [12]) (by kernel_rfl) (by simp) ?_;refine AllReadyH.cons (o := ⟨none, _, _, _, _, _⟩) rfl (fun Kx hK => ?_) AllReadyH.nil;refine step_store_rowK rfl 38 _ _ rfl (w5.heap.size) #[.int .i64 X'.d.me, .int .i64 X'.d.n, .int .i64 X'.d.b.t, .int .i64 X'.d.b.v, .int .i64 X'.d.b.r, .slice X'.ba X'.d.b.l.length X'.bc, .int .i64 X'.d.ld, .int .i64 X'.d.L.bi, .int .i64 X'.d.L.bt, .slice X'.la X'.d.L.l.length X'.lc, .int .i64 X'.d.L.cm, .string X'.d.tx, .slice X'.na X'.d.nx.length X'.nc, .slice X'.ma X'.d.mt.length X'.mc] rfl rfl 38 _ HGP.out (by kernel_rfl) (by rfl) (by simp [Value.oneCell']) ?_;refine hK.out _ _ (HSB.out _ HBW.out) (fun hHeld => ?_);clear hK Kx
         try simp only [Act.put, List.setIfInBounds_toArray, List.set_cons_zero, List.set_cons_succ]
         refine wpAnyH_ready (rs := [13]) (by kernel_rfl) (by simp) ?_;refine AllReadyH.cons (o := ⟨none, _, _, _, _, _⟩) rfl (fun Kx hK => ?_) AllReadyH.nil;refine step_store_rowK rfl 46 _ _ rfl (w5.heap.size + 1) #[.slice X'.ra X'.R.length X'.rc, .slice X'.qa X'.M.length X'.qc, .int .i64 X'.ix, .bool X'.wt] rfl rfl 46 _ HGQ.out (by kernel_rfl) (by rfl) (by simp [Value.oneCell']) ?_;refine hK.out _ _ (HSB.out _ HF4.out) (fun hHeld => ?_);clear hK Kx
         try simp only [Act.put, List.setIfInBounds_toArray, List.set_cons_zero, List.set_cons_succ]
         refine wpAnyH_take (i := 14) (oi := ⟨some 10, _, _, _, _, _⟩) (v := ?_) rfl (by kernel_rfl) (by kernel_rfl) (by kernel_rfl) (fun _ _ _ h => h) (Or.inl ⟨by rfl, ?_⟩) (by assumption) ?_
         rotate_left
         ·intro w5 hSw
          (try dsimp only at hSw)
          go_simp
          (try with_reducible rfl)
         try simp only [Act.put, List.setIfInBounds_toArray, List.set_cons_zero, List.set_cons_succ]
         refine wpAnyH_done (by kernel_rfl) ?_ _;clear hHeld
         go_wp2_with fail
         go_meet
         exact ⟨_, _, X', rfl, rfl, rfl, hideIt ⟨HF1.out, HF2.out, hv, HF3.out, HF4.out⟩⟩
       ·go_simp;refine hK.out _ _ (HSB.out _ (below_via hbw (below1 _ _))) (fun hHeld => ?_);clear hK Kx
        try simp only [Act.put, List.setIfInBounds_toArray, List.set_cons_zero, List.set_cons_succ]
        refine wpAnyH_ready (rs := [10]) (by kernel_rfl) (by simp) ?_;refine (AllReadyH.cons (o := ⟨some 8, _, _, _, _, _⟩) rfl (fun Kx hK => ?_) AllReadyH.nil)
        ·go_simp;refine hK.out _ _ (HSB.out _ (below_via (below_via hbw (below1 _ _)) (below1 _ _))) (fun hHeld => ?_);clear hK Kx
         try simp only [Act.put, List.setIfInBounds_toArray, List.set_cons_zero, List.set_cons_succ]
         have hws : wr.heap.size ≤ w5.heap.size := hbw.size;have hBB : wr.heap.size ≤ wr.drew.heap.size := Nat.le_refl _;have F := two_wen (V := wr) (w5 := w5) #[.int .i64 X'.d.me, .int .i64 X'.d.n, .int .i64 X'.d.b.t, .int .i64 X'.d.b.v, .int .i64 X'.d.b.r, .slice X'.ba X'.d.b.l.length X'.bc, .int .i64 X'.d.ld, .int .i64 X'.d.L.bi, .int .i64 X'.d.L.bt, .slice X'.la X'.d.L.l.length X'.lc, .int .i64 X'.d.L.cm, .string X'.d.tx, .slice X'.na X'.d.nx.length X'.nc, .slice X'.ma X'.d.mt.length X'.mc] #[.slice X'.ra X'.R.length X'.rc, .slice X'.qa X'.M.length X'.qc, .int .i64 X'.ix, .bool X'.wt] #[.int .i64 0, .int .i64 0, .int .i64 0, .int .i64 0, .int .i64 0, .slice none 0 0, .int .i64 0, .int .i64 0, .int .i64 0, .slice none 0 0, .int .i64 0, .string ⟨#[]⟩, .slice none 0 0, .slice none 0 0] #[.slice none 0 0, .slice none 0 0, .int .i64 0, .bool false] hr hbw;obtain ⟨f1, f2, f3, f4⟩ := F.out;have HF1 := hideIt f1;have HF2 := hideIt f2;have HF3 := hideIt (f3.base hBB);have HF4 := hideIt f4;have HGP : Hid ((((w5.alloc (.cells #[.slice none 0 0, .slice none 0 0, .int .i64 0, .bool false] 46)).alloc (.cells #[.int .i64 0, .int .i64 0, .int .i64 0, .int .i64 0, .int .i64 0, .slice none 0 0, .int .i64 0, .int .i64 0, .int .i64 0, .slice none 0 0, .int .i64 0, .string ⟨#[]⟩, .slice none 0 0, .slice none 0 0] 38))).heap[w5.heap.size + 1]? = some (.cells #[.int .i64 0, .int .i64 0, .int .i64 0, .int .i64 0, .int .i64 0, .slice none 0 0, .int .i64 0, .int .i64 0, .int .i64 0, .slice none 0 0, .int .i64 0, .string ⟨#[]⟩, .slice none 0 0, .slice none 0 0] 38 (0, 0))) := hideIt (alloc2_new _ _ _ _);have HGQ : Hid (((((w5.alloc (.cells #[.slice none 0 0, .slice none 0 0, .int .i64 0, .bool false] 46)).alloc (.cells #[.int .i64 0, .int .i64 0, .int .i64 0, .int .i64 0, .int .i64 0, .slice none 0 0, .int .i64 0, .int .i64 0, .int .i64 0, .slice none 0 0, .int .i64 0, .string ⟨#[]⟩, .slice none 0 0, .slice none 0 0] 38))).setRow (w5.heap.size + 1) #[.int .i64 X'.d.me, .int .i64 X'.d.n, .int .i64 X'.d.b.t, .int .i64 X'.d.b.v, .int .i64 X'.d.b.r, .slice X'.ba X'.d.b.l.length X'.bc, .int .i64 X'.d.ld, .int .i64 X'.d.L.bi, .int .i64 X'.d.L.bt, .slice X'.la X'.d.L.l.length X'.lc, .int .i64 X'.d.L.cm, .string X'.d.tx, .slice X'.na X'.d.nx.length X'.nc, .slice X'.ma X'.d.mt.length X'.mc]).heap[w5.heap.size]? = some (.cells #[.slice none 0 0, .slice none 0 0, .int .i64 0, .bool false] 46 (0, 0))) := hideIt ((setRow_other _ _ _ _ (by omega)).trans (blkK (heap_alloc_new w5 _) (below1 _ _)));have HBW : Hid (Below wr.heap.size wr ((((w5.alloc (.cells #[.slice none 0 0, .slice none 0 0, .int .i64 0, .bool false] 46)).alloc (.cells #[.int .i64 0, .int .i64 0, .int .i64 0, .int .i64 0, .int .i64 0, .slice none 0 0, .int .i64 0, .int .i64 0, .int .i64 0, .slice none 0 0, .int .i64 0, .string ⟨#[]⟩, .slice none 0 0, .slice none 0 0] 38))).setRow (w5.heap.size + 1) #[.int .i64 X'.d.me, .int .i64 X'.d.n, .int .i64 X'.d.b.t, .int .i64 X'.d.b.v, .int .i64 X'.d.b.r, .slice X'.ba X'.d.b.l.length X'.bc, .int .i64 X'.d.ld, .int .i64 X'.d.L.bi, .int .i64 X'.d.L.bt, .slice X'.la X'.d.L.l.length X'.lc, .int .i64 X'.d.L.cm, .string X'.d.tx, .slice X'.na X'.d.nx.length X'.nc, .slice X'.ma X'.d.mt.length X'.mc])) := hideIt (below_out (below_via (below_via hbw (below1 _ _)) (below1 _ _)) (setRow_out _ (w5.heap.size + 1) _) (fun k e => by omega));clear F f1 f2 f3 f4 hHeld;refine wpAnyH_ready (rs := [12]) (by kernel_rfl) (by simp) ?_;refine AllReadyH.cons (o := ⟨none, _, _, _, _, _⟩) rfl (fun Kx hK => ?_) AllReadyH.nil;refine step_store_rowK rfl 38 _ _ rfl (w5.heap.size + 1) #[.int .i64 X'.d.me, .int .i64 X'.d.n, .int .i64 X'.d.b.t, .int .i64 X'.d.b.v, .int .i64 X'.d.b.r, .slice X'.ba X'.d.b.l.length X'.bc, .int .i64 X'.d.ld, .int .i64 X'.d.L.bi, .int .i64 X'.d.L.bt, .slice X'.la X'.d.L.l.length X'.lc, .int .i64 X'.d.L.cm, .string X'.d.tx, .slice X'.na X'.d.nx.length X'.nc, .slice X'.ma X'.d.mt.length X'.mc] rfl rfl 38 _ HGP.out (by kernel_rfl) (by rfl) (by simp [Value.oneCell']) ?_;refine hK.out _ _ (HSB.out _ HBW.out) (fun hHeld => ?_);clear hK Kx
         try simp only [Act.put, List.setIfInBounds_toArray, List.set_cons_zero, List.set_cons_succ]
         refine wpAnyH_ready (rs := [13]) (by kernel_rfl) (by simp) ?_;refine AllReadyH.cons (o := ⟨none, _, _, _, _, _⟩) rfl (fun Kx hK => ?_) AllReadyH.nil;refine step_store_rowK rfl 46 _ _ rfl (w5.heap.size) #[.slice X'.ra X'.R.length X'.rc, .slice X'.qa X'.M.length X'.qc, .int .i64 X'.ix, .bool X'.wt] rfl rfl 46 _ HGQ.out (by kernel_rfl) (by rfl) (by simp [Value.oneCell']) ?_;refine hK.out _ _ (HSB.out _ HF4.out) (fun hHeld => ?_);clear hK Kx
         try simp only [Act.put, List.setIfInBounds_toArray, List.set_cons_zero, List.set_cons_succ]
         refine wpAnyH_take (i := 14) (oi := ⟨some 10, _, _, _, _, _⟩) (v := ?_) rfl (by kernel_rfl) (by kernel_rfl) (by kernel_rfl) (fun _ _ _ h => h) (Or.inl ⟨by rfl, ?_⟩) (by assumption) ?_
         rotate_left
         ·intro w5 hSw
          (try dsimp only at hSw)
          go_simp
          (try with_reducible rfl)
         try simp only [Act.put, List.setIfInBounds_toArray, List.set_cons_zero, List.set_cons_succ]
         refine wpAnyH_done (by kernel_rfl) ?_ _;clear hHeld
         go_wp2_with fail
         go_meet
         exact ⟨_, _, X', rfl, rfl, rfl, hideIt ⟨HF1.out, HF2.out, hv, HF3.out, HF4.out⟩⟩
      ·go_simp;refine hK.out _ _ (HSB.out _ (by first | exact (Below.refl _ _).drew | exact (below1 _ _).drew | exact below_via (Below.refl _ _).drew (below1 _ _) | exact (below_via (below1 _ _) (below1 _ _)).drew | exact below_via (below_via (Below.refl _ _).drew (below1 _ _)) (below1 _ _))) (fun hHeld => ?_);clear hK Kx
       try simp only [Act.put, List.setIfInBounds_toArray, List.set_cons_zero, List.set_cons_succ]
       refine wpAnyH_ready (rs := [5, 11]) (by kernel_rfl) (by simp) ?_;refine (AllReadyH.cons (o := ⟨some 47, _, _, _, _, _⟩) rfl (fun Kx hK => ?_) (AllReadyH.cons (o := ⟨some 9, _, _, _, _, _⟩) rfl (fun Kx hK => ?_) AllReadyH.nil))
       ·go_simp
        go_at_call 11
        refine (HCL.out _ (by first | exact (Below.refl _ _).drew | exact (below1 _ _).drew | exact below_via (Below.refl _ _).drew (below1 _ _) | exact (below_via (below1 _ _) (below1 _ _)).drew | exact below_via (below_via (Below.refl _ _).drew (below1 _ _)) (below1 _ _))).mono ?_;rintro r w5 ⟨X', rfl, hv, hr, hb⟩;have hbw : Below wr.heap.size wr w5 := below_via (by first | exact (Below.refl _ _).drew | exact (below1 _ _).drew | exact below_via (Below.refl _ _).drew (below1 _ _) | exact (below_via (below1 _ _) (below1 _ _)).drew | exact below_via (below_via (Below.refl _ _).drew (below1 _ _)) (below1 _ _)) hb;refine hK.out _ _ (HSB.out _ hbw) (fun hHeld => ?_);clear hK Kx
        try simp only [Act.put, List.setIfInBounds_toArray, List.set_cons_zero, List.set_cons_succ]
        refine wpAnyH_take (i := 6) (oi := ⟨some 41, _, _, _, _, _⟩) (v := ?_) rfl (by kernel_rfl) (by kernel_rfl) (by kernel_rfl) (fun _ _ _ h => h) (Or.inl ⟨by rfl, ?_⟩) (by assumption) ?_
        rotate_left
        ·intro w5 hSw
         (try dsimp only at hSw)
         go_simp
         (try with_reducible rfl)
        try simp only [Act.put, List.setIfInBounds_toArray, List.set_cons_zero, List.set_cons_succ]
        refine wpAnyH_take (i := 7) (oi := ⟨some 48, _, _, _, _, _⟩) (v := ?_) rfl (by kernel_rfl) (by kernel_rfl) (by kernel_rfl) (fun _ _ _ h => h) (Or.inl ⟨by rfl, ?_⟩) (by assumption) ?_
        rotate_left
        ·intro w5 hSw
         (try dsimp only at hSw)
         go_simp
         (try with_reducible rfl)
        try simp only [Act.put, List.setIfInBounds_toArray, List.set_cons_zero, List.set_cons_succ]
        refine wpAnyH_take (i := 8) (oi := ⟨some 49, _, _, _, _, _⟩) (v := ?_) rfl (by kernel_rfl) (by kernel_rfl) (by kernel_rfl) (fun _ _ _ h => h) (Or.inl ⟨by rfl, ?_⟩) (by assumption) ?_
        rotate_left
        ·intro w5 hSw
         (try dsimp only at hSw)
         go_simp
         (try with_reducible rfl)
        try simp only [Act.put, List.setIfInBounds_toArray, List.set_cons_zero, List.set_cons_succ]
        refine wpAnyH_take (i := 9) (oi := ⟨some 50, _, _, _, _, _⟩) (v := ?_) rfl (by kernel_rfl) (by kernel_rfl) (by kernel_rfl) (fun _ _ _ h => h) (Or.inl ⟨by rfl, ?_⟩) (by assumption) ?_
        rotate_left
        ·intro w5 hSw
         (try dsimp only at hSw)
         go_simp
         (try with_reducible rfl)
        try simp only [Act.put, List.setIfInBounds_toArray, List.set_cons_zero, List.set_cons_succ]
        refine wpAnyH_ready (rs := [11]) (by kernel_rfl) (by simp) ?_;refine (AllReadyH.cons (o := ⟨some 9, _, _, _, _, _⟩) rfl (fun Kx hK => ?_) AllReadyH.nil)
        ·go_simp;refine hK.out _ _ (HSB.out _ (below_via hbw (below1 _ _))) (fun hHeld => ?_);clear hK Kx
         try simp only [Act.put, List.setIfInBounds_toArray, List.set_cons_zero, List.set_cons_succ]
         have hws : wr.heap.size ≤ w5.heap.size := hbw.size;have hlB : wr.heap.size < (wr.alloc (.cells #[.int .i64 0, .int .i64 0, .int .i64 0, .int .i64 0, .int .i64 0, .slice none 0 0, .int .i64 0, .int .i64 0, .int .i64 0, .slice none 0 0, .int .i64 0, .string ⟨#[]⟩, .slice none 0 0, .slice none 0 0] 38)).drew.heap.size := show wr.heap.size < (wr.alloc (.cells #[.int .i64 0, .int .i64 0, .int .i64 0, .int .i64 0, .int .i64 0, .slice none 0 0, .int .i64 0, .int .i64 0, .int .i64 0, .slice none 0 0, .int .i64 0, .string ⟨#[]⟩, .slice none 0 0, .slice none 0 0] 38)).heap.size by first | (simp; done) | (simp; omega)
         have hlt5 : wr.heap.size < w5.heap.size := Nat.lt_of_lt_of_le hlB hb.size;have hBB : wr.heap.size ≤ (wr.alloc (.cells #[.int .i64 0, .int .i64 0, .int .i64 0, .int .i64 0, .int .i64 0, .slice none 0 0, .int .i64 0, .int .i64 0, .int .i64 0, .slice none 0 0, .int .i64 0, .string ⟨#[]⟩, .slice none 0 0, .slice none 0 0] 38)).drew.heap.size := Nat.le_of_lt hlB;have hp0 : w5.heap[wr.heap.size]? = some (.cells #[.int .i64 0, .int .i64 0, .int .i64 0, .int .i64 0, .int .i64 0, .slice none 0 0, .int .i64 0, .int .i64 0, .int .i64 0, .slice none 0 0, .int .i64 0, .string ⟨#[]⟩, .slice none 0 0, .slice none 0 0] 38 (0, 0)) := blkK (w := (wr.alloc (.cells #[.int .i64 0, .int .i64 0, .int .i64 0, .int .i64 0, .int .i64 0, .slice none 0 0, .int .i64 0, .int .i64 0, .int .i64 0, .slice none 0 0, .int .i64 0, .string ⟨#[]⟩, .slice none 0 0, .slice none 0 0] 38)).drew) (heap_alloc_new wr _) hb;have F := two_q (V := wr) (w5 := w5) #[.int .i64 X'.d.me, .int .i64 X'.d.n, .int .i64 X'.d.b.t, .int .i64 X'.d.b.v, .int .i64 X'.d.b.r, .slice X'.ba X'.d.b.l.length X'.bc, .int .i64 X'.d.ld, .int .i64 X'.d.L.bi, .int .i64 X'.d.L.bt, .slice X'.la X'.d.L.l.length X'.lc, .int .i64 X'.d.L.cm, .string X'.d.tx, .slice X'.na X'.d.nx.length X'.nc, .slice X'.ma X'.d.mt.length X'.mc] #[.slice X'.ra X'.R.length X'.rc, .slice X'.qa X'.M.length X'.qc, .int .i64 X'.ix, .bool X'.wt] #[.slice none 0 0, .slice none 0 0, .int .i64 0, .bool false] hr hp0 hlB hbw (Nat.le_refl _);obtain ⟨f1, f2, f3, f4⟩ := F.out;have HF1 := hideIt f1;have HF2 := hideIt f2;have HF3 := hideIt (f3.base hBB);have HF4 := hideIt f4;have HGP : Hid (((w5.alloc (.cells #[.slice none 0 0, .slice none 0 0, .int .i64 0, .bool false] 46))).heap[wr.heap.size]? = some (.cells #[.int .i64 0, .int .i64 0, .int .i64 0, .int .i64 0, .int .i64 0, .slice none 0 0, .int .i64 0, .int .i64 0, .int .i64 0, .slice none 0 0, .int .i64 0, .string ⟨#[]⟩, .slice none 0 0, .slice none 0 0] 38 (0, 0))) := hideIt (blkK hp0 (below1 _ _));have HGQ : Hid ((((w5.alloc (.cells #[.slice none 0 0, .slice none 0 0, .int .i64 0, .bool false] 46))).setRow (wr.heap.size) #[.int .i64 X'.d.me, .int .i64 X'.d.n, .int .i64 X'.d.b.t, .int .i64 X'.d.b.v, .int .i64 X'.d.b.r, .slice X'.ba X'.d.b.l.length X'.bc, .int .i64 X'.d.ld, .int .i64 X'.d.L.bi, .int .i64 X'.d.L.bt, .slice X'.la X'.d.L.l.length X'.lc, .int .i64 X'.d.L.cm, .string X'.d.tx, .slice X'.na X'.d.nx.length X'.nc, .slice X'.ma X'.d.mt.length X'.mc]).heap[w5.heap.size]? = some (.cells #[.slice none 0 0, .slice none 0 0, .int .i64 0, .bool false] 46 (0, 0))) := hideIt ((setRow_other _ _ _ _ (by omega)).trans (heap_alloc_new w5 _));have HBW : Hid (Below wr.heap.size wr (((w5.alloc (.cells #[.slice none 0 0, .slice none 0 0, .int .i64 0, .bool false] 46))).setRow (wr.heap.size) #[.int .i64 X'.d.me, .int .i64 X'.d.n, .int .i64 X'.d.b.t, .int .i64 X'.d.b.v, .int .i64 X'.d.b.r, .slice X'.ba X'.d.b.l.length X'.bc, .int .i64 X'.d.ld, .int .i64 X'.d.L.bi, .int .i64 X'.d.L.bt, .slice X'.la X'.d.L.l.length X'.lc, .int .i64 X'.d.L.cm, .string X'.d.tx, .slice X'.na X'.d.nx.length X'.nc, .slice X'.ma X'.d.mt.length X'.mc])) := hideIt (below_out (below_via hbw (below1 _ _)) (setRow_out _ (wr.heap.size) _) (fun k e => by omega));clear F f1 f2 f3 f4 hHeld;refine wpAnyH_ready (rs := [12]) (by kernel_rfl) (by simp) ?_;refine AllReadyH.cons (o := ⟨none, _, _, _, _, _⟩) rfl (fun Kx hK => ?_) AllReadyH.nil;refine step_store_rowK rfl 38 _ _ rfl (wr.heap.size) #[.int .i64 X'.d.me, .int .i64 X'.d.n, .int .i64 X'.d.b.t, .int .i64 X'.d.b.v, .int .i64 X'.d.b.r, .slice X'.ba X'.d.b.l.length X'.bc, .int .i64 X'.d.ld, .int .i64 X'.d.L.bi, .int .i64 X'.d.L.bt, .slice X'.la X'.d.L.l.length X'.lc, .int .i64 X'.d.L.cm, .string X'.d.tx, .slice X'.na X'.d.nx.length X'.nc, .slice X'.ma X'.d.mt.length X'.mc] rfl rfl 38 _ HGP.out (by kernel_rfl) (by rfl) (by simp [Value.oneCell']) ?_;refine hK.out _ _ (HSB.out _ HBW.out) (fun hHeld => ?_);clear hK Kx
         try simp only [Act.put, List.setIfInBounds_toArray, List.set_cons_zero, List.set_cons_succ]
         refine wpAnyH_ready (rs := [13]) (by kernel_rfl) (by simp) ?_;refine AllReadyH.cons (o := ⟨none, _, _, _, _, _⟩) rfl (fun Kx hK => ?_) AllReadyH.nil;refine step_store_rowK rfl 46 _ _ rfl (w5.heap.size) #[.slice X'.ra X'.R.length X'.rc, .slice X'.qa X'.M.length X'.qc, .int .i64 X'.ix, .bool X'.wt] rfl rfl 46 _ HGQ.out (by kernel_rfl) (by rfl) (by simp [Value.oneCell']) ?_;refine hK.out _ _ (HSB.out _ HF4.out) (fun hHeld => ?_);clear hK Kx
         try simp only [Act.put, List.setIfInBounds_toArray, List.set_cons_zero, List.set_cons_succ]
         refine wpAnyH_take (i := 14) (oi := ⟨some 10, _, _, _, _, _⟩) (v := ?_) rfl (by kernel_rfl) (by kernel_rfl) (by kernel_rfl) (fun _ _ _ h => h) (Or.inl ⟨by rfl, ?_⟩) (by assumption) ?_
         rotate_left
         ·intro w5 hSw
          (try dsimp only at hSw)
          go_simp
          (try with_reducible rfl)
         try simp only [Act.put, List.setIfInBounds_toArray, List.set_cons_zero, List.set_cons_succ]
         refine wpAnyH_done (by kernel_rfl) ?_ _;clear hHeld
         go_wp2_with fail
         go_meet
         exact ⟨_, _, X', rfl, rfl, rfl, hideIt ⟨HF1.out, HF2.out, hv, HF3.out, HF4.out⟩⟩
       ·go_simp;refine hK.out _ _ (HSB.out _ (by first | exact (Below.refl _ _).drew | exact (below1 _ _).drew | exact below_via (Below.refl _ _).drew (below1 _ _) | exact (below_via (below1 _ _) (below1 _ _)).drew | exact below_via (below_via (Below.refl _ _).drew (below1 _ _)) (below1 _ _))) (fun hHeld => ?_);clear hK Kx
        try simp only [Act.put, List.setIfInBounds_toArray, List.set_cons_zero, List.set_cons_succ]
        refine wpAnyH_ready (rs := [5]) (by kernel_rfl) (by simp) ?_;refine (AllReadyH.cons (o := ⟨some 47, _, _, _, _, _⟩) rfl (fun Kx hK => ?_) AllReadyH.nil)
        ·go_simp
         go_at_call 11
         refine (HCL.out _ (by first | exact (Below.refl _ _).drew | exact (below1 _ _).drew | exact below_via (Below.refl _ _).drew (below1 _ _) | exact (below_via (below1 _ _) (below1 _ _)).drew | exact below_via (below_via (Below.refl _ _).drew (below1 _ _)) (below1 _ _))).mono ?_;rintro r w5 ⟨X', rfl, hv, hr, hb⟩;have hbw : Below wr.heap.size wr w5 := below_via (by first | exact (Below.refl _ _).drew | exact (below1 _ _).drew | exact below_via (Below.refl _ _).drew (below1 _ _) | exact (below_via (below1 _ _) (below1 _ _)).drew | exact below_via (below_via (Below.refl _ _).drew (below1 _ _)) (below1 _ _)) hb;refine hK.out _ _ (HSB.out _ hbw) (fun hHeld => ?_);clear hK Kx
         try simp only [Act.put, List.setIfInBounds_toArray, List.set_cons_zero, List.set_cons_succ]
         refine wpAnyH_take (i := 6) (oi := ⟨some 41, _, _, _, _, _⟩) (v := ?_) rfl (by kernel_rfl) (by kernel_rfl) (by kernel_rfl) (fun _ _ _ h => h) (Or.inl ⟨by rfl, ?_⟩) (by assumption) ?_
         rotate_left
         ·intro w5 hSw
          (try dsimp only at hSw)
          go_simp
          (try with_reducible rfl)
         try simp only [Act.put, List.setIfInBounds_toArray, List.set_cons_zero, List.set_cons_succ]
         refine wpAnyH_take (i := 7) (oi := ⟨some 48, _, _, _, _, _⟩) (v := ?_) rfl (by kernel_rfl) (by kernel_rfl) (by kernel_rfl) (fun _ _ _ h => h) (Or.inl ⟨by rfl, ?_⟩) (by assumption) ?_
         rotate_left
         ·intro w5 hSw
          (try dsimp only at hSw)
          go_simp
          (try with_reducible rfl)
         try simp only [Act.put, List.setIfInBounds_toArray, List.set_cons_zero, List.set_cons_succ]
         refine wpAnyH_take (i := 8) (oi := ⟨some 49, _, _, _, _, _⟩) (v := ?_) rfl (by kernel_rfl) (by kernel_rfl) (by kernel_rfl) (fun _ _ _ h => h) (Or.inl ⟨by rfl, ?_⟩) (by assumption) ?_
         rotate_left
         ·intro w5 hSw
          (try dsimp only at hSw)
          go_simp
          (try with_reducible rfl)
         try simp only [Act.put, List.setIfInBounds_toArray, List.set_cons_zero, List.set_cons_succ]
         refine wpAnyH_take (i := 9) (oi := ⟨some 50, _, _, _, _, _⟩) (v := ?_) rfl (by kernel_rfl) (by kernel_rfl) (by kernel_rfl) (fun _ _ _ h => h) (Or.inl ⟨by rfl, ?_⟩) (by assumption) ?_
         rotate_left
         ·intro w5 hSw
          (try dsimp only at hSw)
          go_simp
          (try with_reducible rfl)
         try simp only [Act.put, List.setIfInBounds_toArray, List.set_cons_zero, List.set_cons_succ]
         have hws : wr.heap.size ≤ w5.heap.size := hbw.size;have hlB : wr.heap.size < ((wr.alloc (.cells #[.int .i64 0, .int .i64 0, .int .i64 0, .int .i64 0, .int .i64 0, .slice none 0 0, .int .i64 0, .int .i64 0, .int .i64 0, .slice none 0 0, .int .i64 0, .string ⟨#[]⟩, .slice none 0 0, .slice none 0 0] 38)).alloc (.cells #[.slice none 0 0, .slice none 0 0, .int .i64 0, .bool false] 46)).drew.heap.size := show wr.heap.size < ((wr.alloc (.cells #[.int .i64 0, .int .i64 0, .int .i64 0, .int .i64 0, .int .i64 0, .slice none 0 0, .int .i64 0, .int .i64 0, .int .i64 0, .slice none 0 0, .int .i64 0, .string ⟨#[]⟩, .slice none 0 0, .slice none 0 0] 38)).alloc (.cells #[.slice none 0 0, .slice none 0 0, .int .i64 0, .bool false] 46)).heap.size by first | (simp; done) | (simp; omega)
         have hlt5 : wr.heap.size < w5.heap.size := Nat.lt_of_lt_of_le hlB hb.size;have hlB1 : wr.heap.size + 1 < ((wr.alloc (.cells #[.int .i64 0, .int .i64 0, .int .i64 0, .int .i64 0, .int .i64 0, .slice none 0 0, .int .i64 0, .int .i64 0, .int .i64 0, .slice none 0 0, .int .i64 0, .string ⟨#[]⟩, .slice none 0 0, .slice none 0 0] 38)).alloc (.cells #[.slice none 0 0, .slice none 0 0, .int .i64 0, .bool false] 46)).drew.heap.size := show wr.heap.size + 1 < ((wr.alloc (.cells #[.int .i64 0, .int .i64 0, .int .i64 0, .int .i64 0, .int .i64 0, .slice none 0 0, .int .i64 0, .int .i64 0, .int .i64 0, .slice none 0 0, .int .i64 0, .string ⟨#[]⟩, .slice none 0 0, .slice none 0 0] 38)).alloc (.cells #[.slice none 0 0, .slice none 0 0, .int .i64 0, .bool false] 46)).heap.size by first | (simp; done) | (simp; omega)
         have hBB : wr.heap.size ≤ ((wr.alloc (.cells #[.int .i64 0, .int .i64 0, .int .i64 0, .int .i64 0, .int .i64 0, .slice none 0 0, .int .i64 0, .int .i64 0, .int .i64 0, .slice none 0 0, .int .i64 0, .string ⟨#[]⟩, .slice none 0 0, .slice none 0 0] 38)).alloc (.cells #[.slice none 0 0, .slice none 0 0, .int .i64 0, .bool false] 46)).drew.heap.size := Nat.le_of_lt hlB;have hp0 : w5.heap[wr.heap.size]? = some (.cells #[.int .i64 0, .int .i64 0, .int .i64 0, .int .i64 0, .int .i64 0, .slice none 0 0, .int .i64 0, .int .i64 0, .int .i64 0, .slice none 0 0, .int .i64 0, .string ⟨#[]⟩, .slice none 0 0, .slice none 0 0] 38 (0, 0)) := blkK (w := ((wr.alloc (.cells #[.int .i64 0, .int .i64 0, .int .i64 0, .int .i64 0, .int .i64 0, .slice none 0 0, .int .i64 0, .int .i64 0, .int .i64 0, .slice none 0 0, .int .i64 0, .string ⟨#[]⟩, .slice none 0 0, .slice none 0 0] 38)).alloc (.cells #[.slice none 0 0, .slice none 0 0, .int .i64 0, .bool false] 46)).drew) (blkK (heap_alloc_new wr _) (below1 _ _).drew) hb;have hq0 : w5.heap[wr.heap.size + 1]? = some (.cells #[.slice none 0 0, .slice none 0 0, .int .i64 0, .bool false] 46 (0, 0)) := blkK (w := ((wr.alloc (.cells #[.int .i64 0, .int .i64 0, .int .i64 0, .int .i64 0, .int .i64 0, .slice none 0 0, .int .i64 0, .int .i64 0, .int .i64 0, .slice none 0 0, .int .i64 0, .string ⟨#[]⟩, .slice none 0 0, .slice none 0 0] 38)).alloc (.cells #[.slice none 0 0, .slice none 0 0, .int .i64 0, .bool false] 46)).drew) (alloc2_new _ _ _ _) hb;have F := two_old (V := wr) (w5 := w5) #[.int .i64 X'.d.me, .int .i64 X'.d.n, .int .i64 X'.d.b.t, .int .i64 X'.d.b.v, .int .i64 X'.d.b.r, .slice X'.ba X'.d.b.l.length X'.bc, .int .i64 X'.d.ld, .int .i64 X'.d.L.bi, .int .i64 X'.d.L.bt, .slice X'.la X'.d.L.l.length X'.lc, .int .i64 X'.d.L.cm, .string X'.d.tx, .slice X'.na X'.d.nx.length X'.nc, .slice X'.ma X'.d.mt.length X'.mc] #[.slice X'.ra X'.R.length X'.rc, .slice X'.qa X'.M.length X'.qc, .int .i64 X'.ix, .bool X'.wt] hr hp0 hq0 (by omega) hlB hlB1 hbw (Nat.le_refl _) (Nat.le_succ _);obtain ⟨f1, f2, f3, f4⟩ := F.out;have HF1 := hideIt f1;have HF2 := hideIt f2;have HF3 := hideIt (f3.base hBB);have HF4 := hideIt f4;have HGP : Hid ((w5).heap[wr.heap.size]? = some (.cells #[.int .i64 0, .int .i64 0, .int .i64 0, .int .i64 0, .int .i64 0, .slice none 0 0, .int .i64 0, .int .i64 0, .int .i64 0, .slice none 0 0, .int .i64 0, .string ⟨#[]⟩, .slice none 0 0, .slice none 0 0] 38 (0, 0))) := hideIt (hp0);have HGQ : Hid (((w5).setRow (wr.heap.size) #[.int .i64 X'.d.me, .int .i64 X'.d.n, .int .i64 X'.d.b.t, .int .i64 X'.d.b.v, .int .i64 X'.d.b.r, .slice X'.ba X'.d.b.l.length X'.bc, .int .i64 X'.d.ld, .int .i64 X'.d.L.bi, .int .i64 X'.d.L.bt, .slice X'.la X'.d.L.l.length X'.lc, .int .i64 X'.d.L.cm, .string X'.d.tx, .slice X'.na X'.d.nx.length X'.nc, .slice X'.ma X'.d.mt.length X'.mc]).heap[wr.heap.size + 1]? = some (.cells #[.slice none 0 0, .slice none 0 0, .int .i64 0, .bool false] 46 (0, 0))) := hideIt ((setRow_other _ _ _ _ (by omega)).trans (hq0));have HBW : Hid (Below wr.heap.size wr ((w5).setRow (wr.heap.size) #[.int .i64 X'.d.me, .int .i64 X'.d.n, .int .i64 X'.d.b.t, .int .i64 X'.d.b.v, .int .i64 X'.d.b.r, .slice X'.ba X'.d.b.l.length X'.bc, .int .i64 X'.d.ld, .int .i64 X'.d.L.bi, .int .i64 X'.d.L.bt, .slice X'.la X'.d.L.l.length X'.lc, .int .i64 X'.d.L.cm, .string X'.d.tx, .slice X'.na X'.d.nx.length X'.nc, .slice X'.ma X'.d.mt.length X'.mc])) := hideIt (below_out (hbw) (setRow_out _ (wr.heap.size) _) (fun k e => by omega));clear F f1 f2 f3 f4 hHeld;refine wpAnyH_ready (rs := [12]) (by kernel_rfl) (by simp) ?_;refine AllReadyH.cons (o := ⟨none, _, _, _, _, _⟩) rfl (fun Kx hK => ?_) AllReadyH.nil;refine step_store_rowK rfl 38 _ _ rfl (wr.heap.size) #[.int .i64 X'.d.me, .int .i64 X'.d.n, .int .i64 X'.d.b.t, .int .i64 X'.d.b.v, .int .i64 X'.d.b.r, .slice X'.ba X'.d.b.l.length X'.bc, .int .i64 X'.d.ld, .int .i64 X'.d.L.bi, .int .i64 X'.d.L.bt, .slice X'.la X'.d.L.l.length X'.lc, .int .i64 X'.d.L.cm, .string X'.d.tx, .slice X'.na X'.d.nx.length X'.nc, .slice X'.ma X'.d.mt.length X'.mc] rfl rfl 38 _ HGP.out (by kernel_rfl) (by rfl) (by simp [Value.oneCell']) ?_;refine hK.out _ _ (HSB.out _ HBW.out) (fun hHeld => ?_);clear hK Kx
         try simp only [Act.put, List.setIfInBounds_toArray, List.set_cons_zero, List.set_cons_succ]
         refine wpAnyH_ready (rs := [13]) (by kernel_rfl) (by simp) ?_;refine AllReadyH.cons (o := ⟨none, _, _, _, _, _⟩) rfl (fun Kx hK => ?_) AllReadyH.nil;refine step_store_rowK rfl 46 _ _ rfl (wr.heap.size + 1) #[.slice X'.ra X'.R.length X'.rc, .slice X'.qa X'.M.length X'.qc, .int .i64 X'.ix, .bool X'.wt] rfl rfl 46 _ HGQ.out (by kernel_rfl) (by rfl) (by simp [Value.oneCell']) ?_;refine hK.out _ _ (HSB.out _ HF4.out) (fun hHeld => ?_);clear hK Kx
         try simp only [Act.put, List.setIfInBounds_toArray, List.set_cons_zero, List.set_cons_succ]
         refine wpAnyH_take (i := 14) (oi := ⟨some 10, _, _, _, _, _⟩) (v := ?_) rfl (by kernel_rfl) (by kernel_rfl) (by kernel_rfl) (fun _ _ _ h => h) (Or.inl ⟨by rfl, ?_⟩) (by assumption) ?_
         rotate_left
         ·intro w5 hSw
          (try dsimp only at hSw)
          go_simp
          (try with_reducible rfl)
         try simp only [Act.put, List.setIfInBounds_toArray, List.set_cons_zero, List.set_cons_succ]
         refine wpAnyH_done (by kernel_rfl) ?_ _;clear hHeld
         go_wp2_with fail
         go_meet
         exact ⟨_, _, X', rfl, rfl, rfl, hideIt ⟨HF1.out, HF2.out, hv, HF3.out, HF4.out⟩⟩
      ·go_simp;refine hK.out _ _ (HSB.out _ (by first | exact (Below.refl _ _).drew | exact (below1 _ _).drew | exact below_via (Below.refl _ _).drew (below1 _ _) | exact (below_via (below1 _ _) (below1 _ _)).drew | exact below_via (below_via (Below.refl _ _).drew (below1 _ _)) (below1 _ _))) (fun hHeld => ?_);clear hK Kx
       try simp only [Act.put, List.setIfInBounds_toArray, List.set_cons_zero, List.set_cons_succ]
       refine wpAnyH_ready (rs := [5, 10]) (by kernel_rfl) (by simp) ?_;refine (AllReadyH.cons (o := ⟨some 47, _, _, _, _, _⟩) rfl (fun Kx hK => ?_) (AllReadyH.cons (o := ⟨some 8, _, _, _, _, _⟩) rfl (fun Kx hK => ?_) AllReadyH.nil))
       ·go_simp
        go_at_call 11
        refine (HCL.out _ (by first | exact (Below.refl _ _).drew | exact (below1 _ _).drew | exact below_via (Below.refl _ _).drew (below1 _ _) | exact (below_via (below1 _ _) (below1 _ _)).drew | exact below_via (below_via (Below.refl _ _).drew (below1 _ _)) (below1 _ _))).mono ?_;rintro r w5 ⟨X', rfl, hv, hr, hb⟩;have hbw : Below wr.heap.size wr w5 := below_via (by first | exact (Below.refl _ _).drew | exact (below1 _ _).drew | exact below_via (Below.refl _ _).drew (below1 _ _) | exact (below_via (below1 _ _) (below1 _ _)).drew | exact below_via (below_via (Below.refl _ _).drew (below1 _ _)) (below1 _ _)) hb;refine hK.out _ _ (HSB.out _ hbw) (fun hHeld => ?_);clear hK Kx
        try simp only [Act.put, List.setIfInBounds_toArray, List.set_cons_zero, List.set_cons_succ]
        refine wpAnyH_take (i := 6) (oi := ⟨some 41, _, _, _, _, _⟩) (v := ?_) rfl (by kernel_rfl) (by kernel_rfl) (by kernel_rfl) (fun _ _ _ h => h) (Or.inl ⟨by rfl, ?_⟩) (by assumption) ?_
        rotate_left
        ·intro w5 hSw
         (try dsimp only at hSw)
         go_simp
         (try with_reducible rfl)
        try simp only [Act.put, List.setIfInBounds_toArray, List.set_cons_zero, List.set_cons_succ]
        refine wpAnyH_take (i := 7) (oi := ⟨some 48, _, _, _, _, _⟩) (v := ?_) rfl (by kernel_rfl) (by kernel_rfl) (by kernel_rfl) (fun _ _ _ h => h) (Or.inl ⟨by rfl, ?_⟩) (by assumption) ?_
        rotate_left
        ·intro w5 hSw
         (try dsimp only at hSw)
         go_simp
         (try with_reducible rfl)
        try simp only [Act.put, List.setIfInBounds_toArray, List.set_cons_zero, List.set_cons_succ]
        refine wpAnyH_take (i := 8) (oi := ⟨some 49, _, _, _, _, _⟩) (v := ?_) rfl (by kernel_rfl) (by kernel_rfl) (by kernel_rfl) (fun _ _ _ h => h) (Or.inl ⟨by rfl, ?_⟩) (by assumption) ?_
        rotate_left
        ·intro w5 hSw
         (try dsimp only at hSw)
         go_simp
         (try with_reducible rfl)
        try simp only [Act.put, List.setIfInBounds_toArray, List.set_cons_zero, List.set_cons_succ]
        refine wpAnyH_take (i := 9) (oi := ⟨some 50, _, _, _, _, _⟩) (v := ?_) rfl (by kernel_rfl) (by kernel_rfl) (by kernel_rfl) (fun _ _ _ h => h) (Or.inl ⟨by rfl, ?_⟩) (by assumption) ?_
        rotate_left
        ·intro w5 hSw
         (try dsimp only at hSw)
         go_simp
         (try with_reducible rfl)
        try simp only [Act.put, List.setIfInBounds_toArray, List.set_cons_zero, List.set_cons_succ]
        refine wpAnyH_ready (rs := [10]) (by kernel_rfl) (by simp) ?_;refine (AllReadyH.cons (o := ⟨some 8, _, _, _, _, _⟩) rfl (fun Kx hK => ?_) AllReadyH.nil)
        ·go_simp;refine hK.out _ _ (HSB.out _ (below_via hbw (below1 _ _))) (fun hHeld => ?_);clear hK Kx
         try simp only [Act.put, List.setIfInBounds_toArray, List.set_cons_zero, List.set_cons_succ]
         have hws : wr.heap.size ≤ w5.heap.size := hbw.size;have hlB : wr.heap.size < (wr.alloc (.cells #[.slice none 0 0, .slice none 0 0, .int .i64 0, .bool false] 46)).drew.heap.size := show wr.heap.size < (wr.alloc (.cells #[.slice none 0 0, .slice none 0 0, .int .i64 0, .bool false] 46)).heap.size by first | (simp; done) | (simp; omega)
         have hlt5 : wr.heap.size < w5.heap.size := Nat.lt_of_lt_of_le hlB hb.size;have hBB : wr.heap.size ≤ (wr.alloc (.cells #[.slice none 0 0, .slice none 0 0, .int .i64 0, .bool false] 46)).drew.heap.size := Nat.le_of_lt hlB;have hq0 : w5.heap[wr.heap.size]? = some (.cells #[.slice none 0 0, .slice none 0 0, .int .i64 0, .bool false] 46 (0, 0)) := blkK (w := (wr.alloc (.cells #[.slice none 0 0, .slice none 0 0, .int .i64 0, .bool false] 46)).drew) (heap_alloc_new wr _) hb;have F := two_p (V := wr) (w5 := w5) #[.int .i64 X'.d.me, .int .i64 X'.d.n, .int .i64 X'.d.b.t, .int .i64 X'.d.b.v, .int .i64 X'.d.b.r, .slice X'.ba X'.d.b.l.length X'.bc, .int .i64 X'.d.ld, .int .i64 X'.d.L.bi, .int .i64 X'.d.L.bt, .slice X'.la X'.d.L.l.length X'.lc, .int .i64 X'.d.L.cm, .string X'.d.tx, .slice X'.na X'.d.nx.length X'.nc, .slice X'.ma X'.d.mt.length X'.mc] #[.slice X'.ra X'.R.length X'.rc, .slice X'.qa X'.M.length X'.qc, .int .i64 X'.ix, .bool X'.wt] #[.int .i64 0, .int .i64 0, .int .i64 0, .int .i64 0, .int .i64 0, .slice none 0 0, .int .i64 0, .int .i64 0, .int .i64 0, .slice none 0 0, .int .i64 0, .string ⟨#[]⟩, .slice none 0 0, .slice none 0 0] hr hq0 hlB hbw (Nat.le_refl _);obtain ⟨f1, f2, f3, f4⟩ := F.out;have HF1 := hideIt f1;have HF2 := hideIt f2;have HF3 := hideIt (f3.base hBB);have HF4 := hideIt f4;have HGP : Hid (((w5.alloc (.cells #[.int .i64 0, .int .i64 0, .int .i64 0, .int .i64 0, .int .i64 0, .slice none 0 0, .int .i64 0, .int .i64 0, .int .i64 0, .slice none 0 0, .int .i64 0, .string ⟨#[]⟩, .slice none 0 0, .slice none 0 0] 38))).heap[w5.heap.size]? = some (.cells #[.int .i64 0, .int .i64 0, .int .i64 0, .int .i64 0, .int .i64 0, .slice none 0 0, .int .i64 0, .int .i64 0, .int .i64 0, .slice none 0 0, .int .i64 0, .string ⟨#[]⟩, .slice none 0 0, .slice none 0 0] 38 (0, 0))) := hideIt (heap_alloc_new w5 _);have HGQ : Hid ((((w5.alloc (.cells #[.int .i64 0, .int .i64 0, .int .i64 0, .int .i64 0, .int .i64 0, .slice none 0 0, .int .i64 0, .int .i64 0, .int .i64 0, .slice none 0 0, .int .i64 0, .string ⟨#[]⟩, .slice none 0 0, .slice none 0 0] 38))).setRow (w5.heap.size) #[.int .i64 X'.d.me, .int .i64 X'.d.n, .int .i64 X'.d.b.t, .int .i64 X'.d.b.v, .int .i64 X'.d.b.r, .slice X'.ba X'.d.b.l.length X'.bc, .int .i64 X'.d.ld, .int .i64 X'.d.L.bi, .int .i64 X'.d.L.bt, .slice X'.la X'.d.L.l.length X'.lc, .int .i64 X'.d.L.cm, .string X'.d.tx, .slice X'.na X'.d.nx.length X'.nc, .slice X'.ma X'.d.mt.length X'.mc]).heap[wr.heap.size]? = some (.cells #[.slice none 0 0, .slice none 0 0, .int .i64 0, .bool false] 46 (0, 0))) := hideIt ((setRow_other _ _ _ _ (by omega)).trans (blkK hq0 (below1 _ _)));have HBW : Hid (Below wr.heap.size wr (((w5.alloc (.cells #[.int .i64 0, .int .i64 0, .int .i64 0, .int .i64 0, .int .i64 0, .slice none 0 0, .int .i64 0, .int .i64 0, .int .i64 0, .slice none 0 0, .int .i64 0, .string ⟨#[]⟩, .slice none 0 0, .slice none 0 0] 38))).setRow (w5.heap.size) #[.int .i64 X'.d.me, .int .i64 X'.d.n, .int .i64 X'.d.b.t, .int .i64 X'.d.b.v, .int .i64 X'.d.b.r, .slice X'.ba X'.d.b.l.length X'.bc, .int .i64 X'.d.ld, .int .i64 X'.d.L.bi, .int .i64 X'.d.L.bt, .slice X'.la X'.d.L.l.length X'.lc, .int .i64 X'.d.L.cm, .string X'.d.tx, .slice X'.na X'.d.nx.length X'.nc, .slice X'.ma X'.d.mt.length X'.mc])) := hideIt (below_out (below_via hbw (below1 _ _)) (setRow_out _ (w5.heap.size) _) (fun k e => by omega));clear F f1 f2 f3 f4 hHeld;refine wpAnyH_ready (rs := [12]) (by kernel_rfl) (by simp) ?_;refine AllReadyH.cons (o := ⟨none, _, _, _, _, _⟩) rfl (fun Kx hK => ?_) AllReadyH.nil;refine step_store_rowK rfl 38 _ _ rfl (w5.heap.size) #[.int .i64 X'.d.me, .int .i64 X'.d.n, .int .i64 X'.d.b.t, .int .i64 X'.d.b.v, .int .i64 X'.d.b.r, .slice X'.ba X'.d.b.l.length X'.bc, .int .i64 X'.d.ld, .int .i64 X'.d.L.bi, .int .i64 X'.d.L.bt, .slice X'.la X'.d.L.l.length X'.lc, .int .i64 X'.d.L.cm, .string X'.d.tx, .slice X'.na X'.d.nx.length X'.nc, .slice X'.ma X'.d.mt.length X'.mc] rfl rfl 38 _ HGP.out (by kernel_rfl) (by rfl) (by simp [Value.oneCell']) ?_;refine hK.out _ _ (HSB.out _ HBW.out) (fun hHeld => ?_);clear hK Kx
         try simp only [Act.put, List.setIfInBounds_toArray, List.set_cons_zero, List.set_cons_succ]
         refine wpAnyH_ready (rs := [13]) (by kernel_rfl) (by simp) ?_;refine AllReadyH.cons (o := ⟨none, _, _, _, _, _⟩) rfl (fun Kx hK => ?_) AllReadyH.nil;refine step_store_rowK rfl 46 _ _ rfl (wr.heap.size) #[.slice X'.ra X'.R.length X'.rc, .slice X'.qa X'.M.length X'.qc, .int .i64 X'.ix, .bool X'.wt] rfl rfl 46 _ HGQ.out (by kernel_rfl) (by rfl) (by simp [Value.oneCell']) ?_;refine hK.out _ _ (HSB.out _ HF4.out) (fun hHeld => ?_);clear hK Kx
         try simp only [Act.put, List.setIfInBounds_toArray, List.set_cons_zero, List.set_cons_succ]
         refine wpAnyH_take (i := 14) (oi := ⟨some 10, _, _, _, _, _⟩) (v := ?_) rfl (by kernel_rfl) (by kernel_rfl) (by kernel_rfl) (fun _ _ _ h => h) (Or.inl ⟨by rfl, ?_⟩) (by assumption) ?_
         rotate_left
         ·intro w5 hSw
          (try dsimp only at hSw)
          go_simp
          (try with_reducible rfl)
         try simp only [Act.put, List.setIfInBounds_toArray, List.set_cons_zero, List.set_cons_succ]
         refine wpAnyH_done (by kernel_rfl) ?_ _;clear hHeld
         go_wp2_with fail
         go_meet
         exact ⟨_, _, X', rfl, rfl, rfl, hideIt ⟨HF1.out, HF2.out, hv, HF3.out, HF4.out⟩⟩
       ·go_simp;refine hK.out _ _ (HSB.out _ (by first | exact (Below.refl _ _).drew | exact (below1 _ _).drew | exact below_via (Below.refl _ _).drew (below1 _ _) | exact (below_via (below1 _ _) (below1 _ _)).drew | exact below_via (below_via (Below.refl _ _).drew (below1 _ _)) (below1 _ _))) (fun hHeld => ?_);clear hK Kx
        try simp only [Act.put, List.setIfInBounds_toArray, List.set_cons_zero, List.set_cons_succ]
        refine wpAnyH_ready (rs := [5]) (by kernel_rfl) (by simp) ?_;refine (AllReadyH.cons (o := ⟨some 47, _, _, _, _, _⟩) rfl (fun Kx hK => ?_) AllReadyH.nil)
        ·go_simp
         go_at_call 11
         refine (HCL.out _ (by first | exact (Below.refl _ _).drew | exact (below1 _ _).drew | exact below_via (Below.refl _ _).drew (below1 _ _) | exact (below_via (below1 _ _) (below1 _ _)).drew | exact below_via (below_via (Below.refl _ _).drew (below1 _ _)) (below1 _ _))).mono ?_;rintro r w5 ⟨X', rfl, hv, hr, hb⟩;have hbw : Below wr.heap.size wr w5 := below_via (by first | exact (Below.refl _ _).drew | exact (below1 _ _).drew | exact below_via (Below.refl _ _).drew (below1 _ _) | exact (below_via (below1 _ _) (below1 _ _)).drew | exact below_via (below_via (Below.refl _ _).drew (below1 _ _)) (below1 _ _)) hb;refine hK.out _ _ (HSB.out _ hbw) (fun hHeld => ?_);clear hK Kx
         try simp only [Act.put, List.setIfInBounds_toArray, List.set_cons_zero, List.set_cons_succ]
         refine wpAnyH_take (i := 6) (oi := ⟨some 41, _, _, _, _, _⟩) (v := ?_) rfl (by kernel_rfl) (by kernel_rfl) (by kernel_rfl) (fun _ _ _ h => h) (Or.inl ⟨by rfl, ?_⟩) (by assumption) ?_
         rotate_left
         ·intro w5 hSw
          (try dsimp only at hSw)
          go_simp
          (try with_reducible rfl)
         try simp only [Act.put, List.setIfInBounds_toArray, List.set_cons_zero, List.set_cons_succ]
         refine wpAnyH_take (i := 7) (oi := ⟨some 48, _, _, _, _, _⟩) (v := ?_) rfl (by kernel_rfl) (by kernel_rfl) (by kernel_rfl) (fun _ _ _ h => h) (Or.inl ⟨by rfl, ?_⟩) (by assumption) ?_
         rotate_left
         ·intro w5 hSw
          (try dsimp only at hSw)
          go_simp
          (try with_reducible rfl)
         try simp only [Act.put, List.setIfInBounds_toArray, List.set_cons_zero, List.set_cons_succ]
         refine wpAnyH_take (i := 8) (oi := ⟨some 49, _, _, _, _, _⟩) (v := ?_) rfl (by kernel_rfl) (by kernel_rfl) (by kernel_rfl) (fun _ _ _ h => h) (Or.inl ⟨by rfl, ?_⟩) (by assumption) ?_
         rotate_left
         ·intro w5 hSw
          (try dsimp only at hSw)
          go_simp
          (try with_reducible rfl)
         try simp only [Act.put, List.setIfInBounds_toArray, List.set_cons_zero, List.set_cons_succ]
         refine wpAnyH_take (i := 9) (oi := ⟨some 50, _, _, _, _, _⟩) (v := ?_) rfl (by kernel_rfl) (by kernel_rfl) (by kernel_rfl) (fun _ _ _ h => h) (Or.inl ⟨by rfl, ?_⟩) (by assumption) ?_
         rotate_left
         ·intro w5 hSw
          (try dsimp only at hSw)
          go_simp
          (try with_reducible rfl)
         try simp only [Act.put, List.setIfInBounds_toArray, List.set_cons_zero, List.set_cons_succ]
         have hws : wr.heap.size ≤ w5.heap.size := hbw.size;have hlB : wr.heap.size < ((wr.alloc (.cells #[.slice none 0 0, .slice none 0 0, .int .i64 0, .bool false] 46)).alloc (.cells #[.int .i64 0, .int .i64 0, .int .i64 0, .int .i64 0, .int .i64 0, .slice none 0 0, .int .i64 0, .int .i64 0, .int .i64 0, .slice none 0 0, .int .i64 0, .string ⟨#[]⟩, .slice none 0 0, .slice none 0 0] 38)).drew.heap.size := show wr.heap.size < ((wr.alloc (.cells #[.slice none 0 0, .slice none 0 0, .int .i64 0, .bool false] 46)).alloc (.cells #[.int .i64 0, .int .i64 0, .int .i64 0, .int .i64 0, .int .i64 0, .slice none 0 0, .int .i64 0, .int .i64 0, .int .i64 0, .slice none 0 0, .int .i64 0, .string ⟨#[]⟩, .slice none 0 0, .slice none 0 0] 38)).heap.size by first | (simp; done) | (simp; omega)
         have hlt5 : wr.heap.size < w5.heap.size := Nat.lt_of_lt_of_le hlB hb.size;have hlB1 : wr.heap.size + 1 < ((wr.alloc (.cells #[.slice none 0 0, .slice none 0 0, .int .i64 0, .bool false] 46)).alloc (.cells #[.int .i64 0, .int .i64 0, .int .i64 0, .int .i64 0, .int .i64 0, .slice none 0 0, .int .i64 0, .int .i64 0, .int .i64 0, .slice none 0 0, .int .i64 0, .string ⟨#[]⟩, .slice none 0 0, .slice none 0 0] 38)).drew.heap.size := show wr.heap.size + 1 < ((wr.alloc (.cells #[.slice none 0 0, .slice none 0 0, .int .i64 0, .bool false] 46)).alloc (.cells #[.int .i64 0, .int .i64 0, .int .i64 0, .int .i64 0, .int .i64 0, .slice none 0 0, .int .i64 0, .int .i64 0, .int .i64 0, .slice none 0 0, .int .i64 0, .string ⟨#[]⟩, .slice none 0 0, .slice none 0 0] 38)).heap.size by first | (simp; done) | (simp; omega)
         have hBB : wr.heap.size ≤ ((wr.alloc (.cells #[.slice none 0 0, .slice none 0 0, .int .i64 0, .bool false] 46)).alloc (.cells #[.int .i64 0, .int .i64 0, .int .i64 0, .int .i64 0, .int .i64 0, .slice none 0 0, .int .i64 0, .int .i64 0, .int .i64 0, .slice none 0 0, .int .i64 0, .string ⟨#[]⟩, .slice none 0 0, .slice none 0 0] 38)).drew.heap.size := Nat.le_of_lt hlB;have hq0 : w5.heap[wr.heap.size]? = some (.cells #[.slice none 0 0, .slice none 0 0, .int .i64 0, .bool false] 46 (0, 0)) := blkK (w := ((wr.alloc (.cells #[.slice none 0 0, .slice none 0 0, .int .i64 0, .bool false] 46)).alloc (.cells #[.int .i64 0, .int .i64 0, .int .i64 0, .int .i64 0, .int .i64 0, .slice none 0 0, .int .i64 0, .int .i64 0, .int .i64 0, .slice none 0 0, .int .i64 0, .string ⟨#[]⟩, .slice none 0 0, .slice none 0 0] 38)).drew) (blkK (heap_alloc_new wr _) (below1 _ _).drew) hb;have hp0 : w5.heap[wr.heap.size + 1]? = some (.cells #[.int .i64 0, .int .i64 0, .int .i64 0, .int .i64 0, .int .i64 0, .slice none 0 0, .int .i64 0, .int .i64 0, .int .i64 0, .slice none 0 0, .int .i64 0, .string ⟨#[]⟩, .slice none 0 0, .slice none 0 0] 38 (0, 0)) := blkK (w := ((wr.alloc (.cells #[.slice none 0 0, .slice none 0 0, .int .i64 0, .bool false] 46)).alloc (.cells #[.int .i64 0, .int .i64 0, .int .i64 0, .int .i64 0, .int .i64 0, .slice none 0 0, .int .i64 0, .int .i64 0, .int .i64 0, .slice none 0 0, .int .i64 0, .string ⟨#[]⟩, .slice none 0 0, .slice none 0 0] 38)).drew) (alloc2_new _ _ _ _) hb;have F := two_old (V := wr) (w5 := w5) #[.int .i64 X'.d.me, .int .i64 X'.d.n, .int .i64 X'.d.b.t, .int .i64 X'.d.b.v, .int .i64 X'.d.b.r, .slice X'.ba X'.d.b.l.length X'.bc, .int .i64 X'.d.ld, .int .i64 X'.d.L.bi, .int .i64 X'.d.L.bt, .slice X'.la X'.d.L.l.length X'.lc, .int .i64 X'.d.L.cm, .string X'.d.tx, .slice X'.na X'.d.nx.length X'.nc, .slice X'.ma X'.d.mt.length X'.mc] #[.slice X'.ra X'.R.length X'.rc, .slice X'.qa X'.M.length X'.qc, .int .i64 X'.ix, .bool X'.wt] hr hp0 hq0 (by omega) hlB1 hlB hbw (Nat.le_succ _) (Nat.le_refl _);obtain ⟨f1, f2, f3, f4⟩ := F.out;have HF1 := hideIt f1;have HF2 := hideIt f2;have HF3 := hideIt (f3.base hBB);have HF4 := hideIt f4;have HGP : Hid ((w5).heap[wr.heap.size + 1]? = some (.cells #[.int .i64 0, .int .i64 0, .int .i64 0, .int .i64 0, .int .i64 0, .slice none 0 0, .int .i64 0, .int .i64 0, .int .i64 0, .slice none 0 0, .int .i64 0, .string ⟨#[]⟩, .slice none 0 0, .slice none 0 0] 38 (0, 0))) := hideIt (hp0);have HGQ : Hid (((w5).setRow (wr.heap.size + 1) #[.int .i64 X'.d.me, .int .i64 X'.d.n, .int .i64 X'.d.b.t, .int .i64 X'.d.b.v, .int .i64 X'.d.b.r, .slice X'.ba X'.d.b.l.length X'.bc, .int .i64 X'.d.ld, .int .i64 X'.d.L.bi, .int .i64 X'.d.L.bt, .slice X'.la X'.d.L.l.length X'.lc, .int .i64 X'.d.L.cm, .string X'.d.tx, .slice X'.na X'.d.nx.length X'.nc, .slice X'.ma X'.d.mt.length X'.mc]).heap[wr.heap.size]? = some (.cells #[.slice none 0 0, .slice none 0 0, .int .i64 0, .bool false] 46 (0, 0))) := hideIt ((setRow_other _ _ _ _ (by omega)).trans (hq0));have HBW : Hid (Below wr.heap.size wr ((w5).setRow (wr.heap.size + 1) #[.int .i64 X'.d.me, .int .i64 X'.d.n, .int .i64 X'.d.b.t, .int .i64 X'.d.b.v, .int .i64 X'.d.b.r, .slice X'.ba X'.d.b.l.length X'.bc, .int .i64 X'.d.ld, .int .i64 X'.d.L.bi, .int .i64 X'.d.L.bt, .slice X'.la X'.d.L.l.length X'.lc, .int .i64 X'.d.L.cm, .string X'.d.tx, .slice X'.na X'.d.nx.length X'.nc, .slice X'.ma X'.d.mt.length X'.mc])) := hideIt (below_out (hbw) (setRow_out _ (wr.heap.size + 1) _) (fun k e => by omega));clear F f1 f2 f3 f4 hHeld;refine wpAnyH_ready (rs := [12]) (by kernel_rfl) (by simp) ?_;refine AllReadyH.cons (o := ⟨none, _, _, _, _, _⟩) rfl (fun Kx hK => ?_) AllReadyH.nil;refine step_store_rowK rfl 38 _ _ rfl (wr.heap.size + 1) #[.int .i64 X'.d.me, .int .i64 X'.d.n, .int .i64 X'.d.b.t, .int .i64 X'.d.b.v, .int .i64 X'.d.b.r, .slice X'.ba X'.d.b.l.length X'.bc, .int .i64 X'.d.ld, .int .i64 X'.d.L.bi, .int .i64 X'.d.L.bt, .slice X'.la X'.d.L.l.length X'.lc, .int .i64 X'.d.L.cm, .string X'.d.tx, .slice X'.na X'.d.nx.length X'.nc, .slice X'.ma X'.d.mt.length X'.mc] rfl rfl 38 _ HGP.out (by kernel_rfl) (by rfl) (by simp [Value.oneCell']) ?_;refine hK.out _ _ (HSB.out _ HBW.out) (fun hHeld => ?_);clear hK Kx
         try simp only [Act.put, List.setIfInBounds_toArray, List.set_cons_zero, List.set_cons_succ]
         refine wpAnyH_ready (rs := [13]) (by kernel_rfl) (by simp) ?_;refine AllReadyH.cons (o := ⟨none, _, _, _, _, _⟩) rfl (fun Kx hK => ?_) AllReadyH.nil;refine step_store_rowK rfl 46 _ _ rfl (wr.heap.size) #[.slice X'.ra X'.R.length X'.rc, .slice X'.qa X'.M.length X'.qc, .int .i64 X'.ix, .bool X'.wt] rfl rfl 46 _ HGQ.out (by kernel_rfl) (by rfl) (by simp [Value.oneCell']) ?_;refine hK.out _ _ (HSB.out _ HF4.out) (fun hHeld => ?_);clear hK Kx
         try simp only [Act.put, List.setIfInBounds_toArray, List.set_cons_zero, List.set_cons_succ]
         refine wpAnyH_take (i := 14) (oi := ⟨some 10, _, _, _, _, _⟩) (v := ?_) rfl (by kernel_rfl) (by kernel_rfl) (by kernel_rfl) (fun _ _ _ h => h) (Or.inl ⟨by rfl, ?_⟩) (by assumption) ?_
         rotate_left
         ·intro w5 hSw
          (try dsimp only at hSw)
          go_simp
          (try with_reducible rfl)
         try simp only [Act.put, List.setIfInBounds_toArray, List.set_cons_zero, List.set_cons_succ]
         refine wpAnyH_done (by kernel_rfl) ?_ _;clear hHeld
         go_wp2_with fail
         go_meet
         exact ⟨_, _, X', rfl, rfl, rfl, hideIt ⟨HF1.out, HF2.out, hv, HF3.out, HF4.out⟩⟩
     case rest =>
      obtain ⟨p, q, X', rfl, rfl, rfl, HC⟩ := hcut;clear HCL
      by_cases hs : (stepN d x.e).2 = 0
      ·obtain ⟨hfw, hI2⟩ := step_go HHI.out hs;obtain ⟨c1, c2, c3, c4, c5⟩ := HC.out;rw [show (stepN d x.e).1.d = X'.d by rw [← c3]; rfl] at hfw hI2
       rw [hs];have HFW := hideIt hfw;have HI2 := hideIt hI2;have hbA := below1 wc (.cells #[.int .i64 d.b.t, .int .i64 d.b.v] 23);have HA1 := hideIt (heap_alloc_new wc (.cells #[.int .i64 d.b.t, .int .i64 d.b.v] 23));have HA5 := hideIt (below_via c5 hbA);have HAM := hideIt (blkK c1 hbA);have HAW := hideIt (c4.keep hbA);obtain ⟨⟨d0, d1, d2, d3, d4, d5, d6, d7, d8, d9, d10, d11, d12, d13⟩, df, dz⟩ := at14 (HSB.out _ c5).1;clear c1 c2 c3 c4 c5 HC hfw hI2 hbA
       go_upto_region 10 with (refine wpList_store_row rfl 23 _ _ rfl wc.heap.size #[.int .i64 d.b.t, .int .i64 d.b.v] rfl rfl 23 #[.int .i64 0, .int .i64 0] (heap_alloc_new wc _) (by kernel_rfl) (by rfl) (by simp [Value.oneCell']) ?_; rw [World.setRow_alloc_new])
       generalize (World.alloc wc _) = WA at *;generalize wc.heap.size = D1 at *;clear d0 d1 d2 d3 d4 d5 d6 d7 d8 d9 d10 d11 d12 d13 df dz;obtain ⟨⟨m0, m1, m2, m3, m4, m5, m6, m7, m8, m9, m10, m11, m12, m13⟩, mf, mz⟩ := at14 HAM.out;have hbB := below1 WA (.cells #[.int .i64 X'.d.b.t, .int .i64 X'.d.b.v] 23);have HD1 := hideIt (blkK HA1.out hbB);have HD2 := hideIt (heap_alloc_new WA (.cells #[.int .i64 X'.d.b.t, .int .i64 X'.d.b.v] 23));have HBM := hideIt (blkK HAM.out hbB);have HBW := hideIt (HAW.out.keep hbB);have HB5 := hideIt (below_via HA5.out hbB);clear hbB HA1 HA5 HAW
       go_upto_region 11 with (refine wpList_store_row rfl 23 _ _ rfl WA.heap.size #[.int .i64 X'.d.b.t, .int .i64 X'.d.b.v] rfl rfl 23 #[.int .i64 0, .int .i64 0] (heap_alloc_new WA _) (by kernel_rfl) (by rfl) (by simp [Value.oneCell']) ?_; rw [World.setRow_alloc_new])
       generalize (World.alloc WA _) = WB at *;generalize WA.heap.size = D2 at *;clear m0 m1 m2 m3 m4 m5 m6 m7 m8 m9 m10 m11 m12 m13 mf mz HAM;obtain ⟨⟨m0, m1, m2, m3, m4, m5, m6, m7, m8, m9, m10, m11, m12, m13⟩, mf, mz⟩ := at14 HBM.out;have HCK : Hid (Calls Tryz.prog 12 #[.agg #[.int .i64 X'.d.me, .int .i64 X'.d.n, .int .i64 X'.d.b.t, .int .i64 X'.d.b.v, .int .i64 X'.d.b.r, .slice X'.ba X'.d.b.l.length X'.bc, .int .i64 X'.d.ld, .int .i64 X'.d.L.bi, .int .i64 X'.d.L.bt, .slice X'.la X'.d.L.l.length X'.lc, .int .i64 X'.d.L.cm, .string X'.d.tx, .slice X'.na X'.d.nx.length X'.nc, .slice X'.ma X'.d.mt.length X'.mc]] WB fun e w' => e = .returned (.int .i64 0) ∧ Below WB.heap.size WB w') := hideIt (by
        have := chkN_is X'.d X'.gb X'.gl X'.gn X'.gm WB HBW.out.node;rw [HI2.out.1, if_pos rfl] at this;exact this)
       try simp only [Act.put]
       go_cut [96] from 59 to 96 (fun x wy => x = .bool false ∧ Hid (Below WB.heap.size WB wy))
       case first =>
        go_wp2_with fail
        refine HCK.out.mono ?_;rintro r w6 ⟨rfl, hb6⟩;dsimp only;obtain ⟨⟨n0, n1, n2, n3, n4, n5, n6, n7, n8, n9, n10, n11, n12, n13⟩, nf, nz⟩ := at14 (HSB.out _ (below_via HB5.out hb6)).1;clear m0 m1 m2 m3 m4 m5 m6 m7 m8 m9 m10 m11 m12 m13 mf mz;obtain ⟨⟨m0, m1, m2, m3, m4, m5, m6, m7, m8, m9, m10, m11, m12, m13⟩, mf, mz⟩ := at14 (blkK HBM.out hb6);have e0 : w6.cell? ⟨D1, 0, none⟩ = some (.int .i64 d.b.t) := by rw [Tm.cell_at (blkK HD1.out hb6)]; rfl
        have e1 : w6.cell? ⟨D1, 1, none⟩ = some (.int .i64 d.b.v) := by rw [Tm.cell_at (blkK HD1.out hb6)]; rfl
        have f0 : w6.cell? ⟨D2, 0, none⟩ = some (.int .i64 X'.d.b.t) := by rw [Tm.cell_at (blkK HD2.out hb6)]; rfl
        have f1 : w6.cell? ⟨D2, 1, none⟩ = some (.int .i64 X'.d.b.v) := by rw [Tm.cell_at (blkK HD2.out hb6)]; rfl
        have HB6 := hideIt hb6;clear hb6;have hv1 := HFW.out.vote.t;have hv2 := HFW.out.vote.v;have hcm := HFW.out.log.cm;have q1 : decide (X'.d.b.t < d.b.t) = false := decide_eq_false (by omega);have q2 : decide (X'.d.L.cm < d.L.cm) = false := decide_eq_false (by omega)
        by_cases r1 : X'.d.b.t = d.b.t
        ·have q3 : decide (X'.d.b.t = d.b.t) = true := decide_eq_true r1
         by_cases r2 : d.b.v = 0
         ·have q4 : decide (d.b.v = 0) = true := decide_eq_true r2;clear hv1 hv2 hcm
          go_wp2_with fail
          go_meet
          exact ⟨by go_num, hideIt HB6.out⟩
         ·have q4 : decide (d.b.v = 0) = false := decide_eq_false r2;have r3 : X'.d.b.v = d.b.v := hv2 r1 r2;have q5 : decide (X'.d.b.v = d.b.v) = true := decide_eq_true r3;have q6 : (X'.d.b.v == d.b.v) = true := beq_iff_eq.2 r3;have q7 : (X'.d.b.v != d.b.v) = false := by simp [r3]
          have q8 : (d.b.v != 0) = true := by simp [r2]
          have q9 : (d.b.v == 0) = false := by simp [r2]
          clear hv1 hv2 hcm r3
          go_wp2_with fail
          go_meet
          exact ⟨by go_num, hideIt HB6.out⟩
        ·have q3 : decide (X'.d.b.t = d.b.t) = false := decide_eq_false r1;clear hv1 hv2 hcm
         go_wp2_with fail
         go_meet
         exact ⟨by go_num, hideIt HB6.out⟩
       case rest =>
        obtain ⟨rfl, HB6⟩ := hcut;have HX3 := hideIt (HBW.out.keep HB6.out);have HN3 := hideIt (HSB.out _ (below_via HB5.out HB6.out)).1;have HM3 := hideIt (blkK HBM.out HB6.out);have HB8 := hideIt (below_via HB5.out HB6.out);clear m0 m1 m2 m3 m4 m5 m6 m7 m8 m9 m10 m11 m12 m13 mf mz HCK HD1 HD2 HB6 HB5 HBM HBW;obtain ⟨⟨n0, n1, n2, n3, n4, n5, n6, n7, n8, n9, n10, n11, n12, n13⟩, nf, nz⟩ := at14 HN3.out;obtain ⟨⟨m0, m1, m2, m3, m4, m5, m6, m7, m8, m9, m10, m11, m12, m13⟩, mf, mz⟩ := at14 HM3.out;obtain ⟨⟨hA1, hA2⟩, -, hA6, -, hA3, hA4, hA5⟩ := mayB_in (nodeB_L HHI.out.1).1;obtain ⟨⟨hB1, hB2⟩, -, hB6, -, hB3, hB4, hB5⟩ := mayB_in HFW.out.log.may;have hbi := HFW.out.log.bi;have hcm := HFW.out.log.cm;unfold lasI at hA3 hA5 hB3 hB5;have hmax : max X'.d.L.bi d.L.bi = X'.d.L.bi := by omega
        have hw3 : IntKind.i64.wrap (X'.d.L.bi + 1) = X'.d.L.bi + 1 := by rw [IntKind.wrap_i64]; omega
        obtain ⟨a1, c1, rfl, -, hE1⟩ := HHA.out.l.opend;have HE1 := hideIt hE1;have HAT := hideIt HFW.out.log.at_;clear hE1
        go_upto_region 13 with fail
        go_wp2_with fail
        go_loopw [13] (fun kv wz => ∃ kk : Int, kv = .int .i64 kk ∧ X'.d.L.bi + 1 ≤ kk ∧ kk ≤ 4000000 ∧ Hid (Below wc.heap.size wc wz)) (fun kv _ => (d.L.cm + 1 - intOf kv).toNat)
        case atStart => exact ⟨X'.d.L.bi + 1, by go_num, Int.le_refl _, by omega, hideIt (Below.refl _ _)⟩
        case round =>
         obtain ⟨kk, rfl, hk1, hk2, HZ⟩ := hrel;have HB9 := hideIt (below_via HB8.out HZ.out);clear n0 n1 n2 n3 n4 n5 n6 n7 n8 n9 n10 n11 n12 n13 nf nz m0 m1 m2 m3 m4 m5 m6 m7 m8 m9 m10 m11 m12 m13 mf mz;obtain ⟨⟨n0, n1, n2, n3, n4, n5, n6, n7, n8, n9, n10, n11, n12, n13⟩, nf, nz⟩ := at14 (blkK HN3.out HZ.out);obtain ⟨⟨m0, m1, m2, m3, m4, m5, m6, m7, m8, m9, m10, m11, m12, m13⟩, mf, mz⟩ := at14 (blkK HM3.out HZ.out);clear hmax hw3
         by_cases hk : kk ≤ d.L.cm
         ·have hd4 : decide (kk ≤ d.L.cm) = true := decide_eq_true hk;obtain ⟨j1, hj1⟩ : ∃ j1 : Nat, kk - d.L.bi - 1 = (j1 : Int) := ⟨(kk - d.L.bi - 1).toNat, by omega⟩;obtain ⟨j2, hj2⟩ : ∃ j2 : Nat, kk - X'.d.L.bi - 1 = (j2 : Int) := ⟨(kk - X'.d.L.bi - 1).toNat, by omega⟩;have hl1 : j1 < d.L.l.length := by omega
          have hl2 : j2 < X'.d.L.l.length := by omega
          have hl1' : (j1 : Int) < (d.L.l.length : Int) := by omega
          have hl2' : (j2 : Int) < (X'.d.L.l.length : Int) := by omega
          have hp1 : (0 : Int) ≤ (j1 : Int) := by omega
          have hp2 : (0 : Int) ≤ (j2 : Int) := by omega
          have hw4 : IntKind.i64.wrap (kk - d.L.bi) = kk - d.L.bi := by rw [IntKind.wrap_i64]; omega
          have hw5 : IntKind.i64.wrap (kk - d.L.bi - 1) = (j1 : Int) := by rw [IntKind.wrap_i64]; omega
          have hw6 : IntKind.i64.wrap (kk - X'.d.L.bi) = kk - X'.d.L.bi := by rw [IntKind.wrap_i64]; omega
          have hw7 : IntKind.i64.wrap (kk - X'.d.L.bi - 1) = (j2 : Int) := by rw [IntKind.wrap_i64]; omega
          have hw8 : IntKind.i64.wrap (kk + 1) = kk + 1 := by rw [IntKind.wrap_i64]; omega
          have heq := HAT.out kk (by omega) hk;rw [hj1, hj2] at heq;simp only [Int.toNat_natCast] at heq;obtain ⟨b1, o1, rfl, l1, e0, e1, e2⟩ := HE1.out j1 hl1;obtain ⟨a2, c2, g2, -, hE2⟩ := HX3.out.node.l.opend;unfold WkX.gl at g2;simp only [Value.slice.injEq] at g2;obtain ⟨g2, -, g3⟩ := g2;obtain ⟨b2, o2, h2, l2, f0, f1, f2⟩ := hE2 j2 hl2;rw [h2] at g2;rw [g2] at m9;have u0 := (HB9.out.cell (p := ⟨b1, o1 + j1 * 3, none⟩) l1).trans e0;have u1 := (HB9.out.cell (p := ⟨b1, o1 + j1 * 3 + 1, none⟩) l1).trans e1;have u2 := (HB9.out.cell (p := ⟨b1, o1 + j1 * 3 + 2, none⟩) l1).trans e2;have v0 := (HZ.out.cell (p := ⟨b2, o2 + j2 * 3, none⟩) l2).trans f0;have v1 := (HZ.out.cell (p := ⟨b2, o2 + j2 * 3 + 1, none⟩) l2).trans f1;have v2 := (HZ.out.cell (p := ⟨b2, o2 + j2 * 3 + 2, none⟩) l2).trans f2;rw [heq] at v0 v1 v2;clear e0 e1 e2 f0 f1 f2 hE2 heq h2 l1 l2 g2 g3 hj1 hj2;generalize d.L.l.getD j1 noE = en at *;obtain ⟨et, ek, ex⟩ := en;simp only at u0 u1 u2 v0 v1 v2;have nq := neq39r et ek ex
          go_upto_region 16 with fail
          go_region_held3 (fun W => (W.cell? ⟨N, 7, none⟩ = some (.int .i64 d.L.bi) ∧ W.cell? ⟨N, 9, none⟩ = some (.slice (some ⟨b1, o1, none⟩) d.L.l.length c1) ∧ W.cell? ⟨p, 7, none⟩ = some (.int .i64 X'.d.L.bi) ∧ W.cell? ⟨p, 9, none⟩ = some (.slice (some ⟨b2, o2, none⟩) X'.d.L.l.length X'.lc)) ∧ W.cell? ⟨b1, o1 + j1 * 3, none⟩ = some (.int .i64 et) ∧ W.cell? ⟨b1, o1 + j1 * 3 + 1, none⟩ = some (.int .i64 ek) ∧ W.cell? ⟨b1, o1 + j1 * 3 + 2, none⟩ = some (.string ex) ∧ W.cell? ⟨b2, o2 + j2 * 3, none⟩ = some (.int .i64 et) ∧ W.cell? ⟨b2, o2 + j2 * 3 + 1, none⟩ = some (.int .i64 ek) ∧ W.cell? ⟨b2, o2 + j2 * 3 + 2, none⟩ = some (.string ex)) (go_keep) (first | fail)
          all_goals go_wp2
          all_goals go_roundw
          case rel => exact ⟨kk + 1, by go_num, by omega, by omega, hideIt HZ.out.drew⟩
          case measure => simp [intOf]; omega
         ·have hd4 : decide (kk ≤ d.L.cm) = false := decide_eq_false hk;have hhn := HHN.out
          go_upto_region 6 with (refine wpList_store_row rfl 38 _ _ rfl N #[.int .i64 X'.d.me, .int .i64 X'.d.n, .int .i64 X'.d.b.t, .int .i64 X'.d.b.v, .int .i64 X'.d.b.r, .slice X'.ba X'.d.b.l.length X'.bc, .int .i64 X'.d.ld, .int .i64 X'.d.L.bi, .int .i64 X'.d.L.bt, .slice X'.la X'.d.L.l.length X'.lc, .int .i64 X'.d.L.cm, .string X'.d.tx, .slice X'.na X'.d.nx.length X'.nc, .slice X'.ma X'.d.mt.length X'.mc] rfl rfl 38 _ (blkK HN3.out HZ.out) (by kernel_rfl) (by rfl) (by simp [Value.oneCell']) ?_)
          go_wp2
          go_roundw
          case rel => exact ⟨t + 1, X'.d, X'.gb, X'.gl, X'.gn, X'.gm, by omega, by go_num, hideIt ⟨setRow_heap _ N _ _ _ _ (blkK HN3.out HZ.out), ((HX3.out.keep HZ.out).row _ hNlt).node, HI2.out, below_out (below_via HHB.out HB9.out) (setRow_out _ N _) (fun k e => by omega), HHN.out⟩⟩
          case measure => simp [intOf]; omega
      ·have hd3 : decide ((stepN d x.e).2 = 0) = false := decide_eq_false hs;generalize (stepN d x.e).2 = er2 at *;go_wp2
       all_goals go_roundw
       case rel => exact ⟨t + 1, d, gb, gl, gn, gm, by omega, by go_num, hideIt ⟨(HSB.out _ HC.out.2.2.2.2).1, HHA.out.keep HC.out.2.2.2.2, HHI.out, below_via HHB.out HC.out.2.2.2.2, HHN.out⟩⟩
       case measure => simp [intOf]; omega
    ·have hd2 : decide ((t : Int) < 40) = false := decide_eq_false h40;have HB7 := hideIt HX.out.bel
     go_wp2_with fail
     refine (live_is _).mono ?_;rintro r w3 ⟨rfl, hb3⟩;go_wp2;go_ret
     exact ⟨rfl, below_via HB7.out hb3⟩
   ·have hd1 : decide ((t : Int) < (ev.length : Int)) = false := decide_eq_false (by omega);have HB7 := hideIt HX.out.bel
    go_wp2_with fail
    refine (live_is _).mono ?_;rintro r w3 ⟨rfl, hb3⟩;go_wp2;go_ret
    exact ⟨rfl, below_via HB7.out hb3⟩
 ·have hd0 : decide (er = 0) = false := decide_eq_false h0;clear HN1 HND HIN
  go_wp2_with fail
  refine (live_is _).mono ?_;rintro r w3 ⟨rfl, hb3⟩;go_wp2;go_ret
  exact ⟨rfl, below_via HB1.out hb3⟩
end Go.Proofs.YtcaehfkfohianaaGreat
