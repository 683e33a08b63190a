/- All that one holds or waits for is let go: the walk. -/
import Derived.Test.YtgfpeknhabbkbabEnP
import Derived.Test.YtgfpeknhabbkbabPlay
import Derived.Test.YtgfpeknhabbkbabRefA
namespace Go.Proofs.Ytgfpeknhabbkbab
open Go.RowKit
set_option linter.all false
/-- A table on the way, its copy beside. -/
structure DS (w : World) (T S : TabV) (C : Nat) (g : TxnV) (h v hc vc : Value) (Q : Prop) (wx : World) : Prop where
  b0 : wx.heap[w.heap.size]? = some (.cells #[h, v] 25 (0, 0))
  b1 : wx.heap[w.heap.size + 1]? = some (.cells #[.int .i64 g.1, .int .i64 g.2] 29 (0, 0))
  b2 : wx.heap[w.heap.size + 2]? = some (.cells #[.slice none 0 0, .slice none 0 0] 25 (0, 0))
  bC : wx.heap[C]? = some (.cells #[hc, vc] 25 (0, 0))
  cur : (Tab w S h v ∧ Q) ∨ TabOwn w.heap.size S h v wx
  cpy : TabOwn w.heap.size T hc vc wx
  bel : Below w.heap.size w wx
  lC : w.heap.size + 3 ≤ C
  may : MayT S
theorem DS.keep {w wx wy : World} {T S : TabV} {C : Nat} {g : TxnV} {h v hc vc : Value} {Q : Prop} (a : DS w T S C g h v hc vc Q wx) (hb : Below wx.heap.size wx wy) : DS w T S C g h v hc vc Q wy :=
  ⟨(hb.block _ (Array.getElem?_eq_some_iff.1 a.b0).1).trans a.b0, (hb.block _ (Array.getElem?_eq_some_iff.1 a.b1).1).trans a.b1, (hb.block _ (Array.getElem?_eq_some_iff.1 a.b2).1).trans a.b2, (hb.block _ (Array.getElem?_eq_some_iff.1 a.bC).1).trans a.bC, a.cur.imp id (fun o => o.keep hb), a.cpy.keep hb, below_via a.bel hb, a.lC, a.may⟩
theorem DS.mono {w wx : World} {T S : TabV} {C : Nat} {g : TxnV} {h v hc vc : Value} {Q Q2 : Prop} (a : DS w T S C g h v hc vc Q wx) (k : Q → Q2) : DS w T S C g h v hc vc Q2 wx :=
  ⟨a.b0, a.b1, a.b2, a.bC, a.cur.imp (fun x => ⟨x.1, k x.2⟩) id, a.cpy, a.bel, a.lC, a.may⟩
theorem DS.tab {w wx : World} {T S : TabV} {C : Nat} {g : TxnV} {h v hc vc : Value} {Q : Prop} (a : DS w T S C g h v hc vc Q wx) : Tab wx S h v :=
  a.cur.elim (fun k => k.1.keep a.bel) (fun o => o.tab a.may.small.1 a.may.small.2)
theorem DS.put {w wx : World} {T S S2 : TabV} {C : Nat} {g : TxnV} {h v hc vc h2 v2 : Value} {Q : Prop} (Q2 : Prop) (a : DS w T S C g h v hc vc Q wx) (ho : TabOwn w.heap.size S2 h2 v2 wx) (hm : MayT S2) : DS w T S2 C g h2 v2 hc vc Q2 ((wx.setCell ⟨w.heap.size, 0, none⟩ h2).setCell ⟨w.heap.size, 1, none⟩ v2) := by
  have lC := a.lC
  have b := a.b0
  exact ⟨put2 b h2 v2, setOther _ (setOther _ a.b1 (by omega)) (by omega), setOther _ (setOther _ a.b2 (by omega)) (by omega), setOther _ (setOther _ a.bC (by omega)) (by omega),
    .inr ⟨own_cell (own_cell ho.oh b (by decide)) (heap_set b 0 h2) (by decide), own_cell (own_cell ho.ov b (by decide)) (heap_set b 0 h2) (by decide)⟩,
    ⟨own_cell (own_cell a.cpy.oh b (by decide)) (heap_set b 0 h2) (by decide), own_cell (own_cell a.cpy.ov b (by decide)) (heap_set b 0 h2) (by decide)⟩, belowSet _ (belowSet _ a.bel (Nat.le_refl _)) (Nat.le_refl _), lC, hm⟩
theorem DS.ret {w wx : World} {T S : TabV} {C : Nat} {g : TxnV} {h v hc vc : Value} {Q : Prop} (a : DS w T S C g h v hc vc Q wx) (hq : ¬ Q) : ((wx.setCell ⟨w.heap.size + 2, 0, none⟩ h).setCell ⟨w.heap.size + 2, 1, none⟩ v).heap[w.heap.size + 2]? = some (.cells #[h, v] 25 (0, 0)) ∧ TabOwn w.heap.size S h v ((wx.setCell ⟨w.heap.size + 2, 0, none⟩ h).setCell ⟨w.heap.size + 2, 1, none⟩ v) ∧ Below w.heap.size w ((wx.setCell ⟨w.heap.size + 2, 0, none⟩ h).setCell ⟨w.heap.size + 2, 1, none⟩ v) := by
  have b := a.b2
  have o : TabOwn w.heap.size S h v wx := a.cur.elim (fun k => absurd k.2 hq) id
  exact ⟨put2 b h v, ⟨own_cell (own_cell o.oh b (by decide)) (heap_set b 0 h) (by decide), own_cell (own_cell o.ov b (by decide)) (heap_set b 0 h) (by decide)⟩, belowSet _ (belowSet _ a.bel (by omega)) (by omega)⟩
/-- A list's cells, wherever it is read. -/
theorem row_c {w : World} {B : Nat} {l : List HoldV} {b off c : Nat} (ho : w.ownsRow B 34 4 (.slice (some ⟨b, off, none⟩) l.length c) l.length (celC holE l)) (hl : l.length ≤ 1000000) (i : Nat) (hi : i < l.length) : b < w.heap.size ∧ w.cell? ⟨b, off + i * 4, none⟩ = some (.int .i64 (l[i]).1.1) ∧ w.cell? ⟨b, off + i * 4 + 1, none⟩ = some (.int .i64 (l[i]).1.2) ∧ w.cell? ⟨b, off + i * 4 + 2, none⟩ = some (.int .i64 (l[i]).2.1) ∧ w.cell? ⟨b, off + i * 4 + 3, none⟩ = some (.int .i64 (l[i]).2.2) := by
  obtain ⟨a', c', e, h8, hr⟩ := (own_sgot (bytes := 32) (enc := holE) ho (by omega)).hols
  simp only [Value.slice.injEq, true_and] at e
  obtain ⟨b', o', e2, r⟩ := hr i hi
  rw [← e.1] at e2
  simp only [Option.some.injEq, Addr.mk.injEq, and_true] at e2
  obtain ⟨rfl, rfl⟩ := e2
  exact r
theorem row_s {w : World} {B : Nat} {l : List HoldV} {v : Value} (ho : w.ownsRow B 34 4 v l.length (celC holE l)) (hl : l.length ≤ 1000000) (i : Nat) (hi : i < l.length) : ∃ b off c, v = .slice (some ⟨b, off, none⟩) l.length c := by
  obtain ⟨a', c', e, h8, hr⟩ := (own_sgot (bytes := 32) (enc := holE) ho (by omega)).hols
  obtain ⟨b', o', e2, r⟩ := hr i hi
  exact ⟨b', o', c', by rw [e, e2]⟩
theorem dropF_hit {g : TxnV} {S : TabV} {e : HoldV} (h : (e.2 == g) = true) : dropF g S e = (freeL S e.1 g).1 := by
  unfold dropF
  rw [if_pos h]
theorem dropF_miss {g : TxnV} {S : TabV} {e : HoldV} (h : (e.2 == g) = false) : dropF g S e = S := by
  unfold dropF
  rw [if_neg (by simp [h])]
theorem fold_step {g : TxnV} {S : TabV} {l : List HoldV} {i : Nat} (h : i < l.length) : (l.take (i + 1)).foldl (dropF g) S = dropF g ((l.take i).foldl (dropF g) S) l[i] := by
  rw [List.take_succ_eq_append_getElem h, List.foldl_append]
  rfl
def DropBack (T : TabV) (w : World) (e : Ending) (w' : World) : Prop := ∃ h v, e = .returned (.agg #[h, v]) ∧ TabOwn w.heap.size T h v w' ∧ Below w.heap.size w w'
set_option maxHeartbeats 16000000 in
set_option maxRecDepth 100000 in
theorem drop_is (T : TabV) (h v : Value) (g0 g1 : Int) (w : World) (hT : Tab w T h v) (hm : MayT T) (hex : ∃ e ∈ T.held, e.2 = (g0, g1)) : Calls Try.prog 7 #[.agg #[h, v], .agg #[.int .i64 g0, .int .i64 g1]] w (DropBack (dropL T (g0, g1)) w) := by
  have X0 := hideIt (Bx.first w [.cells #[h, v] 25, .cells #[.int .i64 g0, .int .i64 g1] 29, .cells #[.slice none 0 0, .slice none 0 0] 25])
  simp only [List.foldl_cons, List.foldl_nil] at X0
  have H1 := hideIt (rCopy_is T h v _ (hT.keep X0.out.bel))
  have HF := hideIt (fun S h v k n W hS => free_is S h v k n g0 g1 W hS)
  have hsm := hm.small
  have hn : namB (g0, g1) = true := by
    obtain ⟨e, he, hq⟩ := hex
    rw [← hq]
    exact hol_nam (hm.hh e he)
  have KW : Hid (∀ e ∈ T.wait, keyB e.1 = true) := fun e he => hol_key (hm.hw e he)
  have KH : Hid (∀ e ∈ T.held, keyB e.1 = true) := fun e he => hol_key (hm.hh e he)
  have HN := hideIt hn
  have HEX := hideIt hex
  have HM := hideIt hm
  have HT0 := hideIt hT
  obtain ⟨ha0, hc0, rfl⟩ := hT.held.slice
  obtain ⟨va0, vc0, rfl⟩ := hT.wait.slice
  clear hT hm hex hn
  unfold CopyBack at H1
  unfold FreeBack at HF
  go_enter Try.func7, Try.ntmps7
  go_wp2_with fail
  refine H1.out.mono ?_
  rintro e w1 ⟨h1, v1, rfl, ho, -, hb⟩
  dsimp only
  obtain ⟨cha, chc, rfl⟩ := own_len ho.oh
  obtain ⟨cva, cvc, rfl⟩ := own_len ho.ov
  have hb1 := below1 w1 (.cells #[.slice cha T.held.length chc, .slice cva T.wait.length cvc] 25)
  have Xk := (X0.out.keep hb).keep hb1
  have hs0 := (X0.out.keep hb).size
  simp only [List.length_cons, List.length_nil] at hs0
  have X1 : Hid (DS w T T w1.heap.size (g0, g1) (.slice ha0 T.held.length hc0) (.slice va0 T.wait.length vc0) (.slice cha T.held.length chc) (.slice cva T.wait.length cvc) True (w1.alloc (.cells #[.slice cha T.held.length chc, .slice cva T.wait.length cvc] 25))) :=
    ⟨Xk.at_ 0 (by simp), Xk.at_ 1 (by simp), Xk.at_ 2 (by simp), heap_alloc_new w1 _, .inl ⟨HT0.out, trivial⟩, ⟨own_base (ho.keep hb1).oh X0.out.bel.size, own_base (ho.keep hb1).ov X0.out.bel.size⟩, Xk.bel, by omega, HM.out⟩
  clear ho hb hb1 Xk hs0 X0 H1 HT0
  go_upto_region 3 with fail
  generalize w1.alloc (.cells #[.slice cha T.held.length chc, .slice cva T.wait.length cvc] 25) = W1 at *
  generalize w1.heap.size = C at *
  go_loopw [6] (fun v5 wr => ∃ i : Nat, v5 = .int .i64 i ∧ i ≤ T.wait.length ∧ Hid (∃ h v, DS w T ((T.wait.take i).foldl (dropF (g0, g1)) T) C (g0, g1) h v (.slice cha T.held.length chc) (.slice cva T.wait.length cvc) (True) wr)) (fun v _ => T.wait.length - (intOf v).toNat)
  case atStart => exact ⟨0, rfl, Nat.zero_le _, hideIt ⟨_, _, by simpa using X1.out⟩⟩
  case round =>
    obtain ⟨i, rfl, hi, HR⟩ := hrel
    obtain ⟨h, v, X⟩ := HR.out
    clear HR
    obtain ⟨ha, hc, rfl⟩ := X.tab.held.slice
    obtain ⟨va, vc, rfl⟩ := X.tab.wait.slice
    have XX := hideIt X
    obtain ⟨k0, k1, -, -, kl⟩ := two_at X.bC
    by_cases hlt : i < T.wait.length
    · have hltI : (i : Int) < (T.wait.length : Int) := by omega
      have hi0 : (0 : Int) ≤ (i : Int) := by omega
      have hiw : IntKind.i64.wrap ((i : Int) + 1) = ((i + 1 : Nat) : Int) := by rw [IntKind.wrap_i64]; omega
      obtain ⟨b, off, c, e⟩ := row_s X.cpy.ov hsm.2 i hlt
      simp only [Value.slice.injEq, true_and] at e
      obtain ⟨rfl, rfl⟩ := e
      obtain ⟨hbl, q0, q1, q2, q3⟩ := row_c X.cpy.ov hsm.2 i hlt
      obtain ⟨t0, t1, -, -, tl⟩ := two_at X.b1
      have HST := hideIt (fold_step (g := (g0, g1)) (S := T) hlt)
      have HKY := hideIt (KW.out T.wait[i] (List.getElem_mem hlt))
      have HLT := hideIt hlt
      generalize hS : (T.wait.take i).foldl (dropF (g0, g1)) T = S at *
      clear hS
      have HRC : Hid (∀ W : World, W.ownsRow w.heap.size 34 4 (.slice (some ⟨b, off, none⟩) T.wait.length cvc) T.wait.length (celC holE T.wait) → W.cell? ⟨b, off + i * 4, none⟩ = some (.int .i64 T.wait[i].1.1) ∧ W.cell? ⟨b, off + i * 4 + 1, none⟩ = some (.int .i64 T.wait[i].1.2)) := fun W o => ⟨(row_c o hsm.2 i hlt).2.1, (row_c o hsm.2 i hlt).2.2.1⟩
      have QQ : Hid ((T.wait[i].2 == (g0, g1)) = false → (True) → (True)) := fun _ h => h
      generalize T.wait[i] = en at *
      obtain ⟨⟨x, y⟩, ⟨z, u⟩⟩ := en
      dsimp only at q0 q1 q2 q3 t0 t1
      clear X
      cases hq : ((z, u) == (g0, g1))
      · have e2 : ∀ W, (binOp .eql 29 (.agg #[.int .i64 z, .int .i64 u]) (.agg #[.int .i64 g0, .int .i64 g1])).run Try.prog W = .ok (.bool false) W := fun W => (eq28 z u g0 g1 W).trans (by rw [hq])
        have HF0 := hideIt (HST.out.trans (dropF_miss (e := ((x, y), (z, u))) hq))
        have HQ := hideIt (QQ.out hq)
        clear hq HST QQ
        go_wp2_with fail
        go_region
        go_wp2
        go_roundw
        case rel => exact ⟨i + 1, by go_num, by omega, hideIt ⟨_, _, by rw [HF0.out]; exact (XX.out.keep (Below.refl _ _).drew).mono HQ.out⟩⟩
        case measure => simp [intOf]; omega
      · have e2 : ∀ W, (binOp .eql 29 (.agg #[.int .i64 z, .int .i64 u]) (.agg #[.int .i64 g0, .int .i64 g1])).run Try.prog W = .ok (.bool true) W := fun W => (eq28 z u g0 g1 W).trans (by rw [hq])
        have HF0 := hideIt (HST.out.trans (dropF_hit (e := ((x, y), (z, u))) hq))
        clear hq HST QQ
        go_wp2_with fail
        go_region
        go_upto_region 6 with fail
        have X2 := hideIt ((XX.out.keep (Below.refl _ wr).drew).keep (Below.refl _ wr.drew).drew)
        refine wp_region_held_drew (S := (fun W => W.cell? ⟨C, 1, none⟩ = some (.slice (some ⟨b, off, none⟩) T.wait.length cvc) ∧ W.cell? ⟨b, off + i * 4, none⟩ = some (.int .i64 x) ∧ W.cell? ⟨b, off + i * 4 + 1, none⟩ = some (.int .i64 y) ∧ W.cell? ⟨w.heap.size + 1, 0, none⟩ = some (.int .i64 g0) ∧ W.cell? ⟨w.heap.size + 1, 1, none⟩ = some (.int .i64 g1))) (by kernel_rfl) ⟨k1, q0, q1, t0, t1⟩ (fun hHeld => ?_)
        clear hHeld
        have hHeld : (fun W : World => W.cell? ⟨C, 1, none⟩ = some (.slice (some ⟨b, off, none⟩) T.wait.length cvc) ∧ W.cell? ⟨b, off + i * 4, none⟩ = some (.int .i64 x) ∧ W.cell? ⟨b, off + i * 4 + 1, none⟩ = some (.int .i64 y) ∧ W.cell? ⟨w.heap.size + 1, 0, none⟩ = some (.int .i64 g0) ∧ W.cell? ⟨w.heap.size + 1, 1, none⟩ = some (.int .i64 g1)) wr.drew.drew := ⟨k1, q0, q1, t0, t1⟩
        clear q0 q1 q2 q3 t0 t1 k0 k1 kl tl hbl XX
        generalize wr.drew.drew = W2 at *
        obtain ⟨j0, j1, jf0, jf1, jl⟩ := two_at X2.out.b0
        have HC := hideIt (HF.out S _ _ x y W2 X2.out.tab)
        have FT := free_tot X2.out.may HKY.out HN.out
        have HM2 := hideIt (free_may FT.1)
        clear FT HKY
        generalize freeL S (x, y) (g0, g1) = A at *
        obtain ⟨S2, ⟨n0, n1⟩, er⟩ := A
        dsimp only at HC HM2 HF0
        refine wpAnyH_take (i := 1) (oi := ⟨some 27, _, _, _, _, _⟩) (v := ?_) rfl (by kernel_rfl) (by kernel_rfl) (by kernel_rfl) (fun _ _ _ h => h) (Or.inl ⟨by rfl, ?_⟩) (by assumption) ?_
        rotate_left
        · intro w5 hSw
          (try dsimp only at hSw)
          go_simp
          (try with_reducible rfl)
        try simp only [Act.put, List.setIfInBounds_toArray, List.set_cons_zero, List.set_cons_succ]
        refine wpAnyH_take (i := 2) (oi := ⟨some 28, _, _, _, _, _⟩) (v := ?_) rfl (by kernel_rfl) (by kernel_rfl) (by kernel_rfl) (fun _ _ _ h => h) (Or.inl ⟨by rfl, ?_⟩) (by assumption) ?_
        rotate_left
        · intro w5 hSw
          (try dsimp only at hSw)
          go_simp
          (try with_reducible rfl)
        try simp only [Act.put, List.setIfInBounds_toArray, List.set_cons_zero, List.set_cons_succ]
        refine wpAnyH_take (i := 3) (oi := ⟨some 29, _, _, _, _, _⟩) (v := ?_) rfl (by kernel_rfl) (by kernel_rfl) (by kernel_rfl) (fun _ _ _ h => h) (Or.inl ⟨by rfl, ?_⟩) (by assumption) ?_
        rotate_left
        · intro w5 hSw
          (try dsimp only at hSw)
          go_simp
          (try with_reducible rfl)
        try simp only [Act.put, List.setIfInBounds_toArray, List.set_cons_zero, List.set_cons_succ]
        refine wpAnyH_take (i := 4) (oi := ⟨some 30, _, _, _, _, _⟩) (v := ?_) rfl (by kernel_rfl) (by kernel_rfl) (by kernel_rfl) (fun _ _ _ h => h) (Or.inl ⟨by rfl, ?_⟩) (by assumption) ?_
        rotate_left
        · intro w5 hSw
          (try dsimp only at hSw)
          go_simp
          (try with_reducible rfl)
        try simp only [Act.put, List.setIfInBounds_toArray, List.set_cons_zero, List.set_cons_succ]
        refine wpAnyH_take (i := 5) (oi := ⟨some 31, _, _, _, _, _⟩) (v := ?_) rfl (by kernel_rfl) (by kernel_rfl) (by kernel_rfl) (fun _ _ _ h => h) (Or.inl ⟨by rfl, ?_⟩) (by assumption) ?_
        rotate_left
        · intro w5 hSw
          (try dsimp only at hSw)
          go_simp
          (try with_reducible rfl)
        try simp only [Act.put, List.setIfInBounds_toArray, List.set_cons_zero, List.set_cons_succ]
        refine wpAnyH_take (i := 6) (oi := ⟨some 32, _, _, _, _, _⟩) (v := ?_) rfl (by kernel_rfl) (by kernel_rfl) (by kernel_rfl) (fun _ _ _ h => h) (Or.inl ⟨by rfl, ?_⟩) (by assumption) ?_
        rotate_left
        · intro w5 hSw
          (try dsimp only at hSw)
          go_simp
          (try with_reducible rfl)
        try simp only [Act.put, List.setIfInBounds_toArray, List.set_cons_zero, List.set_cons_succ]
        refine wpAnyH_take (i := 7) (oi := ⟨some 33, _, _, _, _, _⟩) (v := ?_) rfl (by kernel_rfl) (by kernel_rfl) (by kernel_rfl) (fun _ _ _ h => h) (Or.inl ⟨by rfl, ?_⟩) (by assumption) ?_
        rotate_left
        · intro w5 hSw
          (try dsimp only at hSw)
          go_simp
          (try with_reducible rfl)
        try simp only [Act.put, List.setIfInBounds_toArray, List.set_cons_zero, List.set_cons_succ]
        have hHk := hHeld
        refine wpAnyH_ready (rs := [0]) (by kernel_rfl) (by simp) ?_
        refine AllReadyH.cons (o := ⟨some 26, _, _, _, _, _⟩) rfl (fun K hK => ?_) AllReadyH.nil
        go_simp
        refine hK.out _ _ hHk (fun hHeld2 => ?_)
        clear hK K
        try simp only [Act.put, List.setIfInBounds_toArray, List.set_cons_zero, List.set_cons_succ]
        refine wpAnyH_ready (rs := [8]) (by kernel_rfl) (by simp) ?_
        refine AllReadyH.cons (o := ⟨some 34, _, _, _, _, _⟩) rfl (fun K hK => ?_) AllReadyH.nil
        go_simp
        go_at_call 9
        refine HC.out.mono ?_
        rintro e w7 ⟨h2, v2, rfl, ho, hb⟩
        obtain ⟨ha2, hc2, rfl⟩ := own_len ho.oh
        obtain ⟨va2, vc2, rfl⟩ := own_len ho.ov
        have X7 := hideIt (X2.out.keep hb)
        have O7 : Hid (TabOwn w.heap.size S2 (.slice ha2 S2.held.length hc2) (.slice va2 S2.wait.length vc2) w7) := ⟨own_base ho.oh X2.out.bel.size, own_base ho.ov X2.out.bel.size⟩
        have Z := hideIt (X7.out.put (True) O7.out HM2.out)
        have bW2 : b < W2.heap.size := (row_c X2.out.cpy.ov hsm.2 i HLT.out).1
        have hS7 : (fun W : World => W.cell? ⟨C, 1, none⟩ = some (.slice (some ⟨b, off, none⟩) T.wait.length cvc) ∧ W.cell? ⟨b, off + i * 4, none⟩ = some (.int .i64 x) ∧ W.cell? ⟨b, off + i * 4 + 1, none⟩ = some (.int .i64 y) ∧ W.cell? ⟨w.heap.size + 1, 0, none⟩ = some (.int .i64 g0) ∧ W.cell? ⟨w.heap.size + 1, 1, none⟩ = some (.int .i64 g1)) w7 := ⟨(two_at X7.out.bC).2.1, (hb.cell (p := ⟨b, off + i * 4, none⟩) bW2).trans hHk.2.1, (hb.cell (p := ⟨b, off + i * 4 + 1, none⟩) bW2).trans hHk.2.2.1, (two_at X7.out.b1).1, (two_at X7.out.b1).2.1⟩
        refine hK.out _ _ hS7 (fun hHeld7 => ?_)
        clear hK K hHeld hHeld2 hHk j0 j1 jf0 jf1 jl
        try simp only [Act.put, List.setIfInBounds_toArray, List.set_cons_zero, List.set_cons_succ]
        refine wpAnyH_take (i := 9) (oi := ⟨some 25, _, _, _, _, _⟩) (v := ?_) rfl (by kernel_rfl) (by kernel_rfl) (by kernel_rfl) (fun _ _ _ h => h) (Or.inl ⟨by rfl, ?_⟩) (by assumption) ?_
        rotate_left
        · intro w5 hSw
          (try dsimp only at hSw)
          go_simp
          (try with_reducible rfl)
        try simp only [Act.put, List.setIfInBounds_toArray, List.set_cons_zero, List.set_cons_succ]
        refine wpAnyH_take (i := 10) (oi := ⟨some 35, _, _, _, _, _⟩) (v := ?_) rfl (by kernel_rfl) (by kernel_rfl) (by kernel_rfl) (fun _ _ _ h => h) (Or.inl ⟨by rfl, ?_⟩) (by assumption) ?_
        rotate_left
        · intro w5 hSw
          (try dsimp only at hSw)
          go_simp
          (try with_reducible rfl)
        try simp only [Act.put, List.setIfInBounds_toArray, List.set_cons_zero, List.set_cons_succ]
        refine wpAnyH_take (i := 11) (oi := ⟨some 36, _, _, _, _, _⟩) (v := ?_) rfl (by kernel_rfl) (by kernel_rfl) (by kernel_rfl) (fun _ _ _ h => h) (Or.inl ⟨by rfl, ?_⟩) (by assumption) ?_
        rotate_left
        · intro w5 hSw
          (try dsimp only at hSw)
          go_simp
          (try with_reducible rfl)
        try simp only [Act.put, List.setIfInBounds_toArray, List.set_cons_zero, List.set_cons_succ]
        refine wpAnyH_take (i := 12) (oi := ⟨some 37, _, _, _, _, _⟩) (v := ?_) rfl (by kernel_rfl) (by kernel_rfl) (by kernel_rfl) (fun _ _ _ h => h) (Or.inl ⟨by rfl, ?_⟩) (by assumption) ?_
        rotate_left
        · intro w5 hSw
          (try dsimp only at hSw)
          go_simp
          (try with_reducible rfl)
        try simp only [Act.put, List.setIfInBounds_toArray, List.set_cons_zero, List.set_cons_succ]
        obtain ⟨j0, j1, jf0, jf1, jl⟩ := two_at X7.out.b0
        refine wpAnyH_ready (rs := [13]) (by kernel_rfl) (by simp) ?_
        refine AllReadyH.cons (o := ⟨none, _, _, _, _, _⟩) rfl (fun K hK => ?_) AllReadyH.nil
        go_simp
        refine hK.out _ _ ⟨(two_at Z.out.bC).2.1, (HRC.out _ Z.out.cpy.ov).1, (HRC.out _ Z.out.cpy.ov).2, (two_at Z.out.b1).1, (two_at Z.out.b1).2.1⟩ (fun hHeld9 => ?_)
        clear hK K
        try simp only [Act.put, List.setIfInBounds_toArray, List.set_cons_zero, List.set_cons_succ]
        refine wpAnyH_done (by kernel_rfl) ?_ _
        go_wp2
        go_roundw
        case rel => exact ⟨i + 1, by go_num, by omega, hideIt ⟨_, _, by rw [HF0.out]; exact Z.out⟩⟩
        case measure => simp [intOf]; omega
    · have hltI : ¬ (i : Int) < (T.wait.length : Int) := by omega
      have hE : T.wait.take i = T.wait := List.take_of_length_le (by omega)
      rw [hE] at XX
      clear hE X
      go_upto_region 8 with fail
      clear k0 k1 kl
      go_loopw [7] (fun v5 wr => ∃ i : Nat, v5 = .int .i64 i ∧ i ≤ T.held.length ∧ Hid (∃ h v, DS w T ((T.held.take i).foldl (dropF (g0, g1)) (T.wait.foldl (dropF (g0, g1)) T)) C (g0, g1) h v (.slice cha T.held.length chc) (.slice cva T.wait.length cvc) (∀ e ∈ T.held.take i, e.2 ≠ (g0, g1)) wr)) (fun v _ => T.held.length - (intOf v).toNat)
      case atStart => exact ⟨0, rfl, Nat.zero_le _, hideIt ⟨_, _, by have hx := XX.out.mono (Q2 := ∀ e ∈ T.held.take 0, e.2 ≠ (g0, g1)) (fun _ e he => by simp at he); simpa using hx⟩⟩
      case round =>
        obtain ⟨i, rfl, hi, HR⟩ := hrel
        obtain ⟨h, v, X⟩ := HR.out
        clear HR
        obtain ⟨ha, hc, rfl⟩ := X.tab.held.slice
        obtain ⟨va, vc, rfl⟩ := X.tab.wait.slice
        have XX := hideIt X
        obtain ⟨k0, k1, -, -, kl⟩ := two_at X.bC
        by_cases hlt : i < T.held.length
        · have hltI : (i : Int) < (T.held.length : Int) := by omega
          have hi0 : (0 : Int) ≤ (i : Int) := by omega
          have hiw : IntKind.i64.wrap ((i : Int) + 1) = ((i + 1 : Nat) : Int) := by rw [IntKind.wrap_i64]; omega
          obtain ⟨b, off, c, e⟩ := row_s X.cpy.oh hsm.1 i hlt
          simp only [Value.slice.injEq, true_and] at e
          obtain ⟨rfl, rfl⟩ := e
          obtain ⟨hbl, q0, q1, q2, q3⟩ := row_c X.cpy.oh hsm.1 i hlt
          obtain ⟨t0, t1, -, -, tl⟩ := two_at X.b1
          have HST := hideIt (fold_step (g := (g0, g1)) (S := (T.wait.foldl (dropF (g0, g1)) T)) hlt)
          have HKY := hideIt (KH.out T.held[i] (List.getElem_mem hlt))
          have HLT := hideIt hlt
          generalize hS : (T.held.take i).foldl (dropF (g0, g1)) (T.wait.foldl (dropF (g0, g1)) T) = S at *
          clear hS
          have HRC : Hid (∀ W : World, W.ownsRow w.heap.size 34 4 (.slice (some ⟨b, off, none⟩) T.held.length chc) T.held.length (celC holE T.held) → W.cell? ⟨b, off + i * 4, none⟩ = some (.int .i64 T.held[i].1.1) ∧ W.cell? ⟨b, off + i * 4 + 1, none⟩ = some (.int .i64 T.held[i].1.2)) := fun W o => ⟨(row_c o hsm.1 i hlt).2.1, (row_c o hsm.1 i hlt).2.2.1⟩
          have QQ : Hid ((T.held[i].2 == (g0, g1)) = false → (∀ e ∈ T.held.take i, e.2 ≠ (g0, g1)) → (∀ e ∈ T.held.take (i + 1), e.2 ≠ (g0, g1))) := fun hq h e he => by
              rw [List.take_succ_eq_append_getElem hlt, List.mem_append, List.mem_singleton] at he
              rcases he with he | rfl
              · exact h e he
              · exact beq_eq_false_iff_ne.1 hq
          generalize T.held[i] = en at *
          obtain ⟨⟨x, y⟩, ⟨z, u⟩⟩ := en
          dsimp only at q0 q1 q2 q3 t0 t1
          clear X
          cases hq : ((z, u) == (g0, g1))
          · have e2 : ∀ W, (binOp .eql 29 (.agg #[.int .i64 z, .int .i64 u]) (.agg #[.int .i64 g0, .int .i64 g1])).run Try.prog W = .ok (.bool false) W := fun W => (eq28 z u g0 g1 W).trans (by rw [hq])
            have HF0 := hideIt (HST.out.trans (dropF_miss (e := ((x, y), (z, u))) hq))
            have HQ := hideIt (QQ.out hq)
            clear hq HST QQ
            go_wp2_with fail
            go_region
            go_wp2
            go_roundw
            case rel => exact ⟨i + 1, by go_num, by omega, hideIt ⟨_, _, by rw [HF0.out]; exact (XX.out.keep (Below.refl _ _).drew).mono HQ.out⟩⟩
            case measure => simp [intOf]; omega
          · have e2 : ∀ W, (binOp .eql 29 (.agg #[.int .i64 z, .int .i64 u]) (.agg #[.int .i64 g0, .int .i64 g1])).run Try.prog W = .ok (.bool true) W := fun W => (eq28 z u g0 g1 W).trans (by rw [hq])
            have HF0 := hideIt (HST.out.trans (dropF_hit (e := ((x, y), (z, u))) hq))
            clear hq HST QQ
            go_wp2_with fail
            go_region
            go_upto_region 11 with fail
            have X2 := hideIt ((XX.out.keep (Below.refl _ wr).drew).keep (Below.refl _ wr.drew).drew)
            refine wp_region_held_drew (S := (fun W => W.cell? ⟨C, 0, none⟩ = some (.slice (some ⟨b, off, none⟩) T.held.length chc) ∧ W.cell? ⟨b, off + i * 4, none⟩ = some (.int .i64 x) ∧ W.cell? ⟨b, off + i * 4 + 1, none⟩ = some (.int .i64 y) ∧ W.cell? ⟨w.heap.size + 1, 0, none⟩ = some (.int .i64 g0) ∧ W.cell? ⟨w.heap.size + 1, 1, none⟩ = some (.int .i64 g1))) (by kernel_rfl) ⟨k0, q0, q1, t0, t1⟩ (fun hHeld => ?_)
            clear hHeld
            have hHeld : (fun W : World => W.cell? ⟨C, 0, none⟩ = some (.slice (some ⟨b, off, none⟩) T.held.length chc) ∧ W.cell? ⟨b, off + i * 4, none⟩ = some (.int .i64 x) ∧ W.cell? ⟨b, off + i * 4 + 1, none⟩ = some (.int .i64 y) ∧ W.cell? ⟨w.heap.size + 1, 0, none⟩ = some (.int .i64 g0) ∧ W.cell? ⟨w.heap.size + 1, 1, none⟩ = some (.int .i64 g1)) wr.drew.drew := ⟨k0, q0, q1, t0, t1⟩
            clear q0 q1 q2 q3 t0 t1 k0 k1 kl tl hbl XX
            generalize wr.drew.drew = W2 at *
            obtain ⟨j0, j1, jf0, jf1, jl⟩ := two_at X2.out.b0
            have HC := hideIt (HF.out S _ _ x y W2 X2.out.tab)
            have FT := free_tot X2.out.may HKY.out HN.out
            have HM2 := hideIt (free_may FT.1)
            clear FT HKY
            generalize freeL S (x, y) (g0, g1) = A at *
            obtain ⟨S2, ⟨n0, n1⟩, er⟩ := A
            dsimp only at HC HM2 HF0
            refine wpAnyH_take (i := 1) (oi := ⟨some 55, _, _, _, _, _⟩) (v := ?_) rfl (by kernel_rfl) (by kernel_rfl) (by kernel_rfl) (fun _ _ _ h => h) (Or.inl ⟨by rfl, ?_⟩) (by assumption) ?_
            rotate_left
            · intro w5 hSw
              (try dsimp only at hSw)
              go_simp
              (try with_reducible rfl)
            try simp only [Act.put, List.setIfInBounds_toArray, List.set_cons_zero, List.set_cons_succ]
            refine wpAnyH_take (i := 2) (oi := ⟨some 56, _, _, _, _, _⟩) (v := ?_) rfl (by kernel_rfl) (by kernel_rfl) (by kernel_rfl) (fun _ _ _ h => h) (Or.inl ⟨by rfl, ?_⟩) (by assumption) ?_
            rotate_left
            · intro w5 hSw
              (try dsimp only at hSw)
              go_simp
              (try with_reducible rfl)
            try simp only [Act.put, List.setIfInBounds_toArray, List.set_cons_zero, List.set_cons_succ]
            refine wpAnyH_take (i := 3) (oi := ⟨some 57, _, _, _, _, _⟩) (v := ?_) rfl (by kernel_rfl) (by kernel_rfl) (by kernel_rfl) (fun _ _ _ h => h) (Or.inl ⟨by rfl, ?_⟩) (by assumption) ?_
            rotate_left
            · intro w5 hSw
              (try dsimp only at hSw)
              go_simp
              (try with_reducible rfl)
            try simp only [Act.put, List.setIfInBounds_toArray, List.set_cons_zero, List.set_cons_succ]
            refine wpAnyH_take (i := 4) (oi := ⟨some 58, _, _, _, _, _⟩) (v := ?_) rfl (by kernel_rfl) (by kernel_rfl) (by kernel_rfl) (fun _ _ _ h => h) (Or.inl ⟨by rfl, ?_⟩) (by assumption) ?_
            rotate_left
            · intro w5 hSw
              (try dsimp only at hSw)
              go_simp
              (try with_reducible rfl)
            try simp only [Act.put, List.setIfInBounds_toArray, List.set_cons_zero, List.set_cons_succ]
            refine wpAnyH_take (i := 5) (oi := ⟨some 59, _, _, _, _, _⟩) (v := ?_) rfl (by kernel_rfl) (by kernel_rfl) (by kernel_rfl) (fun _ _ _ h => h) (Or.inl ⟨by rfl, ?_⟩) (by assumption) ?_
            rotate_left
            · intro w5 hSw
              (try dsimp only at hSw)
              go_simp
              (try with_reducible rfl)
            try simp only [Act.put, List.setIfInBounds_toArray, List.set_cons_zero, List.set_cons_succ]
            refine wpAnyH_take (i := 6) (oi := ⟨some 60, _, _, _, _, _⟩) (v := ?_) rfl (by kernel_rfl) (by kernel_rfl) (by kernel_rfl) (fun _ _ _ h => h) (Or.inl ⟨by rfl, ?_⟩) (by assumption) ?_
            rotate_left
            · intro w5 hSw
              (try dsimp only at hSw)
              go_simp
              (try with_reducible rfl)
            try simp only [Act.put, List.setIfInBounds_toArray, List.set_cons_zero, List.set_cons_succ]
            refine wpAnyH_take (i := 7) (oi := ⟨some 61, _, _, _, _, _⟩) (v := ?_) rfl (by kernel_rfl) (by kernel_rfl) (by kernel_rfl) (fun _ _ _ h => h) (Or.inl ⟨by rfl, ?_⟩) (by assumption) ?_
            rotate_left
            · intro w5 hSw
              (try dsimp only at hSw)
              go_simp
              (try with_reducible rfl)
            try simp only [Act.put, List.setIfInBounds_toArray, List.set_cons_zero, List.set_cons_succ]
            have hHk := hHeld
            refine wpAnyH_ready (rs := [0]) (by kernel_rfl) (by simp) ?_
            refine AllReadyH.cons (o := ⟨some 54, _, _, _, _, _⟩) rfl (fun K hK => ?_) AllReadyH.nil
            go_simp
            refine hK.out _ _ hHk (fun hHeld2 => ?_)
            clear hK K
            try simp only [Act.put, List.setIfInBounds_toArray, List.set_cons_zero, List.set_cons_succ]
            refine wpAnyH_ready (rs := [8]) (by kernel_rfl) (by simp) ?_
            refine AllReadyH.cons (o := ⟨some 62, _, _, _, _, _⟩) rfl (fun K hK => ?_) AllReadyH.nil
            go_simp
            go_at_call 9
            refine HC.out.mono ?_
            rintro e w7 ⟨h2, v2, rfl, ho, hb⟩
            obtain ⟨ha2, hc2, rfl⟩ := own_len ho.oh
            obtain ⟨va2, vc2, rfl⟩ := own_len ho.ov
            have X7 := hideIt (X2.out.keep hb)
            have O7 : Hid (TabOwn w.heap.size S2 (.slice ha2 S2.held.length hc2) (.slice va2 S2.wait.length vc2) w7) := ⟨own_base ho.oh X2.out.bel.size, own_base ho.ov X2.out.bel.size⟩
            have Z := hideIt (X7.out.put (∀ e ∈ T.held.take (i + 1), e.2 ≠ (g0, g1)) O7.out HM2.out)
            have bW2 : b < W2.heap.size := (row_c X2.out.cpy.oh hsm.1 i HLT.out).1
            have hS7 : (fun W : World => W.cell? ⟨C, 0, none⟩ = some (.slice (some ⟨b, off, none⟩) T.held.length chc) ∧ W.cell? ⟨b, off + i * 4, none⟩ = some (.int .i64 x) ∧ W.cell? ⟨b, off + i * 4 + 1, none⟩ = some (.int .i64 y) ∧ W.cell? ⟨w.heap.size + 1, 0, none⟩ = some (.int .i64 g0) ∧ W.cell? ⟨w.heap.size + 1, 1, none⟩ = some (.int .i64 g1)) w7 := ⟨(two_at X7.out.bC).1, (hb.cell (p := ⟨b, off + i * 4, none⟩) bW2).trans hHk.2.1, (hb.cell (p := ⟨b, off + i * 4 + 1, none⟩) bW2).trans hHk.2.2.1, (two_at X7.out.b1).1, (two_at X7.out.b1).2.1⟩
            refine hK.out _ _ hS7 (fun hHeld7 => ?_)
            clear hK K hHeld hHeld2 hHk j0 j1 jf0 jf1 jl
            try simp only [Act.put, List.setIfInBounds_toArray, List.set_cons_zero, List.set_cons_succ]
            refine wpAnyH_take (i := 9) (oi := ⟨some 53, _, _, _, _, _⟩) (v := ?_) rfl (by kernel_rfl) (by kernel_rfl) (by kernel_rfl) (fun _ _ _ h => h) (Or.inl ⟨by rfl, ?_⟩) (by assumption) ?_
            rotate_left
            · intro w5 hSw
              (try dsimp only at hSw)
              go_simp
              (try with_reducible rfl)
            try simp only [Act.put, List.setIfInBounds_toArray, List.set_cons_zero, List.set_cons_succ]
            refine wpAnyH_take (i := 10) (oi := ⟨some 63, _, _, _, _, _⟩) (v := ?_) rfl (by kernel_rfl) (by kernel_rfl) (by kernel_rfl) (fun _ _ _ h => h) (Or.inl ⟨by rfl, ?_⟩) (by assumption) ?_
            rotate_left
            · intro w5 hSw
              (try dsimp only at hSw)
              go_simp
              (try with_reducible rfl)
            try simp only [Act.put, List.setIfInBounds_toArray, List.set_cons_zero, List.set_cons_succ]
            refine wpAnyH_take (i := 11) (oi := ⟨some 64, _, _, _, _, _⟩) (v := ?_) rfl (by kernel_rfl) (by kernel_rfl) (by kernel_rfl) (fun _ _ _ h => h) (Or.inl ⟨by rfl, ?_⟩) (by assumption) ?_
            rotate_left
            · intro w5 hSw
              (try dsimp only at hSw)
              go_simp
              (try with_reducible rfl)
            try simp only [Act.put, List.setIfInBounds_toArray, List.set_cons_zero, List.set_cons_succ]
            refine wpAnyH_take (i := 12) (oi := ⟨some 65, _, _, _, _, _⟩) (v := ?_) rfl (by kernel_rfl) (by kernel_rfl) (by kernel_rfl) (fun _ _ _ h => h) (Or.inl ⟨by rfl, ?_⟩) (by assumption) ?_
            rotate_left
            · intro w5 hSw
              (try dsimp only at hSw)
              go_simp
              (try with_reducible rfl)
            try simp only [Act.put, List.setIfInBounds_toArray, List.set_cons_zero, List.set_cons_succ]
            obtain ⟨j0, j1, jf0, jf1, jl⟩ := two_at X7.out.b0
            refine wpAnyH_ready (rs := [13]) (by kernel_rfl) (by simp) ?_
            refine AllReadyH.cons (o := ⟨none, _, _, _, _, _⟩) rfl (fun K hK => ?_) AllReadyH.nil
            go_simp
            refine hK.out _ _ ⟨(two_at Z.out.bC).1, (HRC.out _ Z.out.cpy.oh).1, (HRC.out _ Z.out.cpy.oh).2, (two_at Z.out.b1).1, (two_at Z.out.b1).2.1⟩ (fun hHeld9 => ?_)
            clear hK K
            try simp only [Act.put, List.setIfInBounds_toArray, List.set_cons_zero, List.set_cons_succ]
            refine wpAnyH_done (by kernel_rfl) ?_ _
            go_wp2
            go_roundw
            case rel => exact ⟨i + 1, by go_num, by omega, hideIt ⟨_, _, by rw [HF0.out]; exact Z.out⟩⟩
            case measure => simp [intOf]; omega
        · have hltI : ¬ (i : Int) < (T.held.length : Int) := by omega
          have hE : T.held.take i = T.held := List.take_of_length_le (by omega)
          rw [hE] at XX
          clear hE X
          have HQ := hideIt (fun hq : (∀ e ∈ T.held, e.2 ≠ (g0, g1)) => (HEX.out).elim (fun e he => hq e he.1 he.2))
          have RT := hideIt (XX.out.ret HQ.out)
          have RC := hideIt (And.intro (two_at (p := w.heap.size + 1 + 1) RT.out.1).1 (two_at (p := w.heap.size + 1 + 1) RT.out.1).2.1)
          obtain ⟨j0, j1, -, -, jl⟩ := two_at XX.out.b0
          obtain ⟨r0, r1, rf0, rf1, rl⟩ := two_at (p := w.heap.size + 1 + 1) XX.out.b2
          have HD : Hid (dropL T (g0, g1) = T.held.foldl (dropF (g0, g1)) (T.wait.foldl (dropF (g0, g1)) T)) := rfl
          generalize T.held.foldl (dropF (g0, g1)) (T.wait.foldl (dropF (g0, g1)) T) = S9 at *
          clear XX
          go_wp2
          exact bodyPost_ret (v := .agg #[.slice ha S9.held.length hc, .slice va S9.wait.length vc]) (by simp [results, Try.results7, go_sem, RC.out.1, RC.out.2]) rfl ⟨_, _, rfl, by rw [HD.out]; exact RT.out.2.1, RT.out.2.2⟩
end Go.Proofs.Ytgfpeknhabbkbab
