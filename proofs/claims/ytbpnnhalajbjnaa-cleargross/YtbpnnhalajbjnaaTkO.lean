/- An order is taken out, walked. -/
import Derived.Test.YtbpnnhalajbjnaaCaP
import Derived.Test.YtbpnnhalajbjnaaUnl
import Derived.Test.YtbpnnhalajbjnaaTrD
import Derived.Test.YtbpnnhalajbjnaaCop
namespace Go.Proofs.Ytbpnnhalajbjnaa
open Go.RowKit
set_option linter.all false
theorem eg53 : ∀ args w, (callFunc 70 args).run Try.prog w = .ok (.enter 70 args) w := enters_of Try.func70 (by kernel_rfl) rfl
theorem outP_is (acc id : Int) (B1 B2 : Nat) (o : OrdV) (w : World) (h1 : B1 < w.heap.size) (h2 : B2 < w.heap.size) (c1 : w.cell? ⟨B1, 0, none⟩ = some (.int .i64 id)) (c2 : w.cell? ⟨B2, 0, none⟩ = some (.int .i64 acc)) :
    Calls Try.prog 70 #[.agg (ordE o).toArray, .pointer (some ⟨B1, 0, none⟩), .pointer (some ⟨B2, 0, none⟩)] w fun e w' => e = .returned (.bool (outP acc id o)) ∧ Below w.heap.size w w' := by
  have HB := hideIt (below1 w (.cells (ordE o).toArray 47))
  have hne : B1 ≠ w.heap.size := by omega
  have hne2 : B2 ≠ w.heap.size := by omega
  unfold outP ordE at *
  obtain ⟨i, ac, p, l⟩ := o
  simp only at HB ⊢
  show Calls Try.prog 70 #[.agg #[.int .i64 i, .int .i64 ac, .int .i64 p, .int .i64 l], .pointer (some ⟨B1, 0, none⟩), .pointer (some ⟨B2, 0, none⟩)] w _
  by_cases h : i = id
  · subst h
    go_enter Try.func70, Try.ntmps70
    go_wp2
    go_ret
    exact ⟨by simp; rfl, HB.out⟩
  · go_enter Try.func70, Try.ntmps70
    go_wp2
    go_ret
    exact ⟨by simp [h], HB.out⟩
theorem pred53 {acc id : Int} {B1 B2 : Nat} {w : World} (h1 : B1 < w.heap.size) (h2 : B2 < w.heap.size) (c1 : w.cell? ⟨B1, 0, none⟩ = some (.int .i64 id)) (c2 : w.cell? ⟨B2, 0, none⟩ = some (.int .i64 acc)) : PredB 70 #[.pointer (some ⟨B1, 0, none⟩), .pointer (some ⟨B2, 0, none⟩)] ordE (outP acc id) w := fun W x hW =>
  (outP_is acc id B1 B2 x W (Nat.lt_of_lt_of_le h1 hW.size) (Nat.lt_of_lt_of_le h2 hW.size) ((hW.cell (p := ⟨B1, 0, none⟩) h1).trans c1) ((hW.cell (p := ⟨B2, 0, none⟩) h2).trans c2)).mono (fun _ _ h => ⟨h.1, below_via hW h.2⟩)
/-- What comes back. -/
def TkBack (D B : Nat) (L : LaneV) (F : List FillV) (b a f : Value) (acc id : Int) (w : World) (e : Ending) (w' : World) : Prop :=
  (∃ M x, canF L acc id = some (M, x) ∧ e = .returned (.tuple #[.agg (ordE x).toArray, .bool true]) ∧ ∃ b' a' o' q, Deal D B M F b' a' o' f w' ∧ Tcr D B q w w' ∧ (q = b.ownBlock ∨ q = a.ownBlock)) ∨
  (canF L acc id = none ∧ e = .returned (.tuple #[.agg #[.int .i64 0, .int .i64 0, .int .i64 0, .int .i64 0], .bool false]) ∧ Below w.heap.size w w')
theorem four_at {w : World} {p : Nat} {t : TypeId} {a b c d : Value} (h : w.heap[p]? = some (.cells #[a, b, c, d] t (0, 0))) : w.cell? ⟨p, 0, none⟩ = some a ∧ w.cell? ⟨p, 1, none⟩ = some b ∧ w.cell? ⟨p, 2, none⟩ = some c ∧ w.cell? ⟨p, 3, none⟩ = some d ∧ p < w.heap.size :=
  ⟨by rw [cell_at h]; rfl, by rw [cell_at h]; rfl, by rw [cell_at h]; rfl, by rw [cell_at h]; rfl, (Array.getElem?_eq_some_iff.1 h).1⟩
structure TK (w : World) (D B : Nat) (L : LaneV) (F : List FillV) (b a o f : Value) (acc id : Int) (W : World) : Prop where
  deal : Deal D B L F b a o f W
  b0 : W.heap[w.heap.size]? = some (.cells #[.int .i64 acc] 3 (0, 0))
  b1 : W.heap[w.heap.size + 1]? = some (.cells #[.int .i64 id] 3 (0, 0))
  b2 : W.heap[w.heap.size + 2]? = some (.cells #[.int .i64 0, .int .i64 0, .int .i64 0, .int .i64 0] 47 (0, 0))
  bel : Below w.heap.size w W
theorem TK.keep {w : World} {D B : Nat} {L : LaneV} {F : List FillV} {b a o f : Value} {acc id : Int} {W W' : World} (h : TK w D B L F b a o f acc id W) (hb : Below W.heap.size W W') : TK w D B L F b a o f acc id W' :=
  ⟨h.deal.keep hb, (hb.block _ (Array.getElem?_eq_some_iff.1 h.b0).1).trans h.b0, (hb.block _ (Array.getElem?_eq_some_iff.1 h.b1).1).trans h.b1, (hb.block _ (Array.getElem?_eq_some_iff.1 h.b2).1).trans h.b2, below_via h.bel hb⟩
theorem TK.first {w : World} {D B : Nat} {L : LaneV} {F : List FillV} {b a o f : Value} (acc id : Int) (h : Deal D B L F b a o f w) : TK w D B L F b a o f acc id (((w.alloc (.cells #[.int .i64 acc] 3)).alloc (.cells #[.int .i64 id] 3)).alloc (.cells #[.int .i64 0, .int .i64 0, .int .i64 0, .int .i64 0] 47)) := by
  have ht := three_heap w (.cells #[.int .i64 acc] 3) (.cells #[.int .i64 id] 3) (.cells #[.int .i64 0, .int .i64 0, .int .i64 0, .int .i64 0] 47)
  have hb := below3 w (.cells #[.int .i64 acc] 3) (.cells #[.int .i64 id] 3) (.cells #[.int .i64 0, .int .i64 0, .int .i64 0, .int .i64 0] 47)
  exact ⟨h.keep hb, ht.1, ht.2.1, ht.2.2.1, hb⟩
theorem TK.pred {w : World} {D B : Nat} {L : LaneV} {F : List FillV} {b a o f : Value} {acc id : Int} {W : World} (h : TK w D B L F b a o f acc id W) : PredB 70 #[.pointer (some ⟨w.heap.size + 1, 0, none⟩), .pointer (some ⟨w.heap.size, 0, none⟩)] ordE (outP acc id) W :=
  pred53 (Array.getElem?_eq_some_iff.1 h.b1).1 (Array.getElem?_eq_some_iff.1 h.b0).1 (by rw [cell_at h.b1]; rfl) (by rw [cell_at h.b0]; rfl)
theorem ords_of {w : World} {B : Nat} {v : Value} {l : List OrdV} (h : w.ownsRow B 47 4 v l.length (celC ordE l)) (hl : l.length ≤ 40) : Ords w v l := own_sgot (bytes := 32) h (by omega)
theorem row36 {w : World} {B : Nat} {v : Value} {l : List OrdV} (h : w.ownsRow B 47 4 v l.length (celC ordE l)) (i : Nat) (hi : i < l.length) : ∃ g c, v = .slice (some ⟨g, 0, none⟩) l.length c ∧ g < w.heap.size ∧ w.cell? ⟨g, i * 4, none⟩ = some (.int .i64 l[i].id) ∧ w.cell? ⟨g, i * 4 + 1, none⟩ = some (.int .i64 l[i].acc) ∧ w.cell? ⟨g, i * 4 + 2, none⟩ = some (.int .i64 l[i].price) ∧ w.cell? ⟨g, i * 4 + 3, none⟩ = some (.int .i64 l[i].left) := by
  rcases h.2 with ⟨_, h2⟩ | ⟨g, cap, cur, rfl, hg0, hg, hn, hc, hs, ht⟩
  · omega
  · have k : ∀ r, r < 4 → w.cell? ⟨g, i * 4 + r, none⟩ = (ordE l[i])[r]? := fun r hr => by
      rw [cell_at hg, ← celC_get ordK l i hi r hr, ← ht, List.getElem?_take, if_pos (by omega)]
      simp
    exact ⟨g, cap, rfl, (Array.getElem?_eq_some_iff.1 hg).1, k 0 (by omega), k 1 (by omega), k 2 (by omega), k 3 (by omega)⟩
theorem take_erase {α : Type} (l : List α) (i : Nat) : l.take i ++ l.drop (i + 1) = l.eraseIdx i := (List.eraseIdx_eq_take_drop_succ l i).symm
theorem deal_set {D B k j : Nat} {M : LaneV} {F : List FillV} {b a o f v : Value} {W : World} {cs : Array Value} (h : Deal D B M F b a o f W) (hk : W.heap[k]? = some (.cells cs 47 (0, 0))) (hD : k ≠ D) (hb : b.ownBlock ≠ some k) (ha : a.ownBlock ≠ some k) : Deal D B M F b a o f (W.setCell ⟨k, j, none⟩ v) :=
  ⟨setOther _ h.box hD.symm, own_ne h.ob hb, own_ne h.oa ha, own_cell h.oo hk (by decide), own_cell h.fl hk (by decide), h.sep⟩
theorem deal_put4 {D B k : Nat} {M : LaneV} {F : List FillV} {b a o f v0 v1 v2 v3 : Value} {W : World} {z0 z1 z2 z3 : Value} (h : Deal D B M F b a o f W) (hk : W.heap[k]? = some (.cells #[z0, z1, z2, z3] 47 (0, 0))) (hD : k ≠ D) (hb : b.ownBlock ≠ some k) (ha : a.ownBlock ≠ some k) : Deal D B M F b a o f ((((W.setCell ⟨k, 0, none⟩ v0).setCell ⟨k, 1, none⟩ v1).setCell ⟨k, 2, none⟩ v2).setCell ⟨k, 3, none⟩ v3) := by
  have h0 := heap_set hk 0 v0
  have h1 := heap_set h0 1 v1
  have h2 := heap_set h1 2 v2
  exact deal_set (deal_set (deal_set (deal_set h hk hD hb ha) h0 hD hb ha) h1 hD hb ha) h2 hD hb ha
/- a side in which nothing is found: the round goes on -/
/- a side in which it is found -/
set_option maxHeartbeats 8000000 in
set_option maxRecDepth 100000 in
theorem takeOut_is (D B c : Nat) (L : LaneV) (F : List FillV) (b a o f : Value) (acc id : Int) (w : World) (h : Deal D B L F b a o f w) (hB : B ≤ w.heap.size) (ho : OkO c L.owed) (hc : c ≤ 1000) (hlb : L.bids.length ≤ 40) (hla : L.asks.length ≤ 40) (hob : OkT L.bids) (hoa : OkT L.asks) :
    Calls Try.prog 44 #[.pointer (some ⟨D, 0, none⟩), .int .i64 acc, .int .i64 id] w (TkBack D B L F b a f acc id w) := by
  obtain ⟨ba, bc, rfl⟩ := own_len h.ob
  obtain ⟨aa, ac, rfl⟩ := own_len h.oa
  have X0 := hideIt (TK.first acc id h)
  have HBS := hideIt (fun W => bothSides_is W)
  have HO1 := hideIt (fun W => orders_is D 1 W)
  have HO2 := hideIt (fun W => orders_is D 2 W)
  rw [show sideOff 1 = 2 from rfl] at HO1
  rw [show sideOff 2 = 3 from rfl] at HO2
  have HI1 := hideIt (fun W (hW : TK w D B L F (.slice ba L.bids.length bc) (.slice aa L.asks.length ac) o f acc id W) => indexO_is 70 _ eg53 _ L.bids (outP acc id) W (ords_of hW.deal.ob hlb) hW.pred)
  have HI2 := hideIt (fun W (hW : TK w D B L F (.slice ba L.bids.length bc) (.slice aa L.asks.length ac) o f acc id W) => indexO_is 70 _ eg53 _ L.asks (outP acc id) W (ords_of hW.deal.oa hla) hW.pred)
  have hix0 := idx0
  have hix1 := idx1
  have hD0 := hideIt h.lt
  have GB := hideIt h.ob.lt
  have GA := hideIt h.oa.lt
  have HOK := hideIt (And.intro ho hc)
  clear h
  cases hfb : L.bids.findIdx? (outP acc id) with
  | some i =>
    rw [show idxI (outP acc id) L.bids = (i : Int) by unfold idxI; rw [hfb]] at HI1
    have hi : i < L.bids.length := by
      rw [List.findIdx?_eq_some_iff_getElem] at hfb
      exact hfb.1
    have HRES : Hid (canF L acc id = some (⟨L.call, L.next, L.bids.eraseIdx i, L.asks, oweL L.bids[i].acc 0 (brN 1 L.bids[i]) L.owed⟩, L.bids[i])) := by
      show _ = _
      unfold canF
      rw [hfb]
      simp [List.getD_eq_getElem?_getD, List.getElem?_eq_getElem hi]
    have hok := hob L.bids[i] (List.getElem_mem hi)
    have HQ := hideIt hok
    clear hfb hok hob hoa ho hc
    go_enter Try.func44, Try.ntmps44
    go_wp2_with fail
    refine (HBS.out _).mono ?_
    rintro e w1 ⟨rfl, hb⟩
    dsimp only
    have X := hideIt (X0.out.keep hb)
    clear hb X0 HBS
    go_upto_region 2 with fail
    go_loopw [14] (fun v wr => ∃ k : Int, v = .int .i64 k ∧ k = 0 ∧ Hid (TK w D B L F (.slice ba L.bids.length bc) (.slice aa L.asks.length ac) o f acc id wr)) (fun v _ => 2 - (intOf v).toNat)
    case atStart => exact ⟨0, rfl, rfl, X⟩
    case round =>
      clear X
      obtain ⟨k, rfl, rfl, X⟩ := hrel
      obtain ⟨c0, c1, c2, c3, c4, c5⟩ := X.out.deal.cells
      have hDl := X.out.deal.lt
      go_wp2_with fail
      refine (HO1.out _).mono ?_
      rintro e wr ⟨rfl, rfl⟩
      dsimp only
      go_wp2_with fail
      refine (HI1.out _ X.out).mono ?_
      rintro e w2 ⟨rfl, hb⟩
      dsimp only
      have X2 := hideIt (X.out.keep hb)
      clear hb X c0 c1 c2 c3 c4 c5 hDl
      obtain ⟨c0, c1, c2, c3, c4, c5⟩ := X2.out.deal.cells
      have hDl := X2.out.deal.lt
      obtain ⟨g, gc, hv, hgl, g0, g1, g2, g3⟩ := row36 X2.out.deal.ob i hi
      simp only [Value.slice.injEq, true_and] at hv
      obtain ⟨rfl, rfl⟩ := hv
      have G0 : Hid (g < w.heap.size) := (GB.out g rfl).2
      have hltI : (i : Int) < (L.bids.length : Int) := by omega
      have hi0 : (0 : Int) ≤ (i : Int) := by omega
      have hwi : IntKind.i64.wrap ((i : Int) + 1) = ((i + 1 : Nat) : Int) := by rw [IntKind.wrap_i64]; omega
      have hb3 := below1 w2 (.cells (ordE L.bids[i]).toArray 47)
      have X3 := hideIt (X2.out.keep hb3)
      have N3 := hideIt (heap_alloc_new w2 (.cells (ordE L.bids[i]).toArray 47))
      have S3 := hideIt (And.intro (Array.getElem?_eq_some_iff.1 X2.out.b2).1 (And.intro X2.out.deal.lt (X2.out.deal.ob.lt)))
      have HDD := hideIt (fun W (hW : W.ownsRow B 47 4 (.slice (some ⟨g, 0, none⟩) L.bids.length bc) L.bids.length (celC ordE L.bids)) => deleteO_is B i (i + 1) rfl (.slice (some ⟨g, 0, none⟩) L.bids.length bc) L.bids W hW hi)
      rw [take_erase] at HDD
      obtain ⟨x, hx⟩ : ∃ x, x = L.bids[i] := ⟨_, rfl⟩
      rw [← hx] at g0 g1 g2 g3 X3 N3
      have HX := hideIt hx
      have HPR := hideIt HQ.out
      rw [← hx] at HPR
      clear hx hb3 HQ
      obtain ⟨xi, xac, xp, xl⟩ := x
      unfold ordE at X3 N3
      dsimp only at g0 g1 g2 g3 X3 N3
      go_upto_region 8 with fail
      clear c0 c1 c2 c3 c4 c5 hDl g0 g1 g2 g3 hgl
      generalize w2.alloc (.cells #[.int .i64 xi, .int .i64 xac, .int .i64 xp, .int .i64 xl] 47) = W3 at *
      generalize w2.heap.size = K at *
      obtain ⟨c0, c1, c2, c3, c4, c5⟩ := X3.out.deal.cells
      have hDl := X3.out.deal.lt
      go_wp2_with fail
      refine (HDD.out _ X3.out.deal.ob).mono ?_
      rintro e w4 ⟨v4, rfl, ho, hg, hob⟩
      dsimp only
      obtain ⟨va, vc, rfl⟩ := own_len ho
      obtain ⟨hD4, e1, e2, e3⟩ := dealB_del X3.out.deal ho hg hob
      have hgK : K ≠ g := fun e => by have := G0.out; have := S3.out.1; omega
      have hgR : w.heap.size + 2 ≠ g := fun e => by have := G0.out; omega
      have hDK : K ≠ D := fun e => by have := S3.out.2.1; omega
      have hDR : w.heap.size + 2 ≠ D := fun e => by have := hD0.out; omega
      have N4 := hideIt (setOther (b := D) (j := 2) (.slice va (L.bids.eraseIdx i).length vc) ((hg.block K (Array.getElem?_eq_some_iff.1 N3.out).1 (fun e => by simp only [Value.ownBlock, Option.some.injEq] at e; exact hgK e)).trans N3.out) hDK)
      have R4 := hideIt (setOther (b := D) (j := 2) (.slice va (L.bids.eraseIdx i).length vc) ((hg.block _ (Array.getElem?_eq_some_iff.1 X3.out.b2).1 (fun e => by simp only [Value.ownBlock, Option.some.injEq] at e; exact hgR e)).trans X3.out.b2) hDR)
      have D4 := hideIt hD4
      have T4 := hideIt (((Tcr.ofTch (q := (Value.slice (some ⟨g, 0, none⟩) L.bids.length bc).ownBlock) (Tch.ofBelow (D := D) (B := B) X3.out.bel)).trans (Tcr.ofGrown (D := D) (B := B) hg)).setD (j := 2) (.slice va (L.bids.eraseIdx i).length vc))
      have OB := hideIt hob
      have Z4 : Hid (B ≤ (w4.setCell ⟨D, 2, none⟩ (.slice va (L.bids.eraseIdx i).length vc)).heap.size) := Nat.le_trans hB T4.out.size
      clear hD4 ho hg hob hgK hgR c0 c1 c2 c3 c4 c5 hDl HDD X3 N3
      go_upto_region 9 with fail
      clear e1 e2 e3
      generalize w4.setCell ⟨D, 2, none⟩ (.slice va (L.bids.eraseIdx i).length vc) = W5 at *
      have HGB := hideIt (giveBack_is D B c _ F _ _ o f 1 ⟨xi, xac, xp, xl⟩ W5 D4.out Z4.out HOK.out.1 HOK.out.2 (show 0 ≤ xp ∧ xp ≤ 1000000 by have := HPR.out; omega) (show 0 ≤ xl ∧ xl ≤ 1000000 by have := HPR.out; omega))
      unfold ordE at HGB
      dsimp only at HGB
      obtain ⟨y0, y1, y2, y3, yl⟩ := four_at N4.out
      go_wp2_with fail
      refine HGB.out.mono ?_
      rintro e w6 ⟨rfl, o6, hD6, hT6⟩
      dsimp only
      have N6 := hT6.block N4.out hDK (by decide) (by decide)
      have R6 := hT6.block R4.out hDR (by decide) (by decide)
      have HD6 := hideIt hD6
      have T6 := hideIt (T4.out.trans (Tcr.ofTch hT6))
      clear hD6 hT6 y0 y1 y2 y3 yl HGB D4 T4 N4 R4 Z4
      obtain ⟨y0, y1, y2, y3, yl⟩ := four_at N6
      obtain ⟨z0, z1, z2, z3, zl⟩ := four_at (p := w.heap.size + 1 + 1) R6
      have zf : ∀ j, w6.frozen? ⟨w.heap.size + 1 + 1, j, none⟩ = false := fun j => free_at (p := w.heap.size + 1 + 1) R6 j
      have HP := hideIt (put4 w6 (w.heap.size + 1 + 1) 47 (.int .i64 xi) (.int .i64 xac) (.int .i64 xp) (.int .i64 xl) R6)
      have HDF := hideIt (deal_put4 (v0 := .int .i64 xi) (v1 := .int .i64 xac) (v2 := .int .i64 xp) (v3 := .int .i64 xl) HD6.out R6 hDR (by rw [OB.out]; simp only [Value.ownBlock, ne_eq, Option.some.injEq]; have := G0.out; omega) (fun e => by have := (GA.out _ e).2; omega))
      have HTF := hideIt ((((T6.out.set (k := w.heap.size + 1 + 1) (j := 0) (by omega) (.int .i64 xi)).set (k := w.heap.size + 1 + 1) (j := 1) (by omega) (.int .i64 xac)).set (k := w.heap.size + 1 + 1) (j := 2) (by omega) (.int .i64 xp)).set (k := w.heap.size + 1 + 1) (j := 3) (by omega) (.int .i64 xl))
      have nK : K ≠ w.heap.size + 1 + 1 := by have := S3.out.1; omega
      clear HD6 T6 N6 R6 S3 hDK hDR
      go_wp2
      revert HP HDF HTF
      generalize (World.setCell _ ⟨w.heap.size + 1 + 1, 3, none⟩ _) = WW
      intro HP HDF HTF
      exact bodyPost_ret (v := .tuple #[.agg #[.int .i64 xi, .int .i64 xac, .int .i64 xp, .int .i64 xl], .bool true]) (by simp [results, Try.results44, go_sem, cell_at HP.out]) rfl (.inl ⟨_, _, HRES.out, by rw [← HX.out]; rfl, _, _, _, _, by rw [← HX.out]; exact HDF.out, HTF.out, by first | exact .inl rfl | exact .inr rfl⟩)
  | none =>
    rw [show idxI (outP acc id) L.bids = -1 by unfold idxI; rw [hfb]] at HI1
    cases hfa : L.asks.findIdx? (outP acc id) with
    | some i =>
      rw [show idxI (outP acc id) L.asks = (i : Int) by unfold idxI; rw [hfa]] at HI2
      have hi : i < L.asks.length := by
        rw [List.findIdx?_eq_some_iff_getElem] at hfa
        exact hfa.1
      have HRES : Hid (canF L acc id = some (⟨L.call, L.next, L.bids, L.asks.eraseIdx i, oweL L.asks[i].acc 1 (brN 2 L.asks[i]) L.owed⟩, L.asks[i])) := by
        show _ = _
        unfold canF
        rw [hfb, hfa]
        simp [List.getD_eq_getElem?_getD, List.getElem?_eq_getElem hi]
      have hok := hoa L.asks[i] (List.getElem_mem hi)
      have HQ := hideIt hok
      clear hfb hfa hok hob hoa ho hc
      go_enter Try.func44, Try.ntmps44
      go_wp2_with fail
      refine (HBS.out _).mono ?_
      rintro e w1 ⟨rfl, hb⟩
      dsimp only
      have X := hideIt (X0.out.keep hb)
      clear hb X0 HBS
      go_upto_region 2 with fail
      go_loopw [14] (fun v wr => ∃ k : Int, v = .int .i64 k ∧ (k = 0 ∨ k = 1) ∧ Hid (TK w D B L F (.slice ba L.bids.length bc) (.slice aa L.asks.length ac) o f acc id wr)) (fun v _ => 2 - (intOf v).toNat)
      case atStart => exact ⟨0, rfl, .inl rfl, X⟩
      case round =>
        clear X
        obtain ⟨k, rfl, hk, X⟩ := hrel
        obtain ⟨c0, c1, c2, c3, c4, c5⟩ := X.out.deal.cells
        have hDl := X.out.deal.lt
        rcases hk with rfl | rfl
        · go_wp2_with fail
          refine (HO1.out _).mono ?_
          rintro e wr ⟨rfl, rfl⟩
          dsimp only
          go_wp2_with fail
          refine (HI1.out _ X.out).mono ?_
          rintro e w2 ⟨rfl, hb⟩
          dsimp only
          have X2 := hideIt (X.out.keep hb)
          clear hb
          go_wp2
          go_roundw
          case rel => exact ⟨1, rfl, .inr rfl, X2⟩
          case measure => simp [intOf]
        · go_wp2_with fail
          refine (HO2.out _).mono ?_
          rintro e wr ⟨rfl, rfl⟩
          dsimp only
          go_wp2_with fail
          refine (HI2.out _ X.out).mono ?_
          rintro e w2 ⟨rfl, hb⟩
          dsimp only
          have X2 := hideIt (X.out.keep hb)
          clear hb X c0 c1 c2 c3 c4 c5 hDl
          obtain ⟨c0, c1, c2, c3, c4, c5⟩ := X2.out.deal.cells
          have hDl := X2.out.deal.lt
          obtain ⟨g, gc, hv, hgl, g0, g1, g2, g3⟩ := row36 X2.out.deal.oa i hi
          simp only [Value.slice.injEq, true_and] at hv
          obtain ⟨rfl, rfl⟩ := hv
          have G0 : Hid (g < w.heap.size) := (GA.out g rfl).2
          have hltI : (i : Int) < (L.asks.length : Int) := by omega
          have hi0 : (0 : Int) ≤ (i : Int) := by omega
          have hwi : IntKind.i64.wrap ((i : Int) + 1) = ((i + 1 : Nat) : Int) := by rw [IntKind.wrap_i64]; omega
          have hb3 := below1 w2 (.cells (ordE L.asks[i]).toArray 47)
          have X3 := hideIt (X2.out.keep hb3)
          have N3 := hideIt (heap_alloc_new w2 (.cells (ordE L.asks[i]).toArray 47))
          have S3 := hideIt (And.intro (Array.getElem?_eq_some_iff.1 X2.out.b2).1 (And.intro X2.out.deal.lt (X2.out.deal.oa.lt)))
          have HDD := hideIt (fun W (hW : W.ownsRow B 47 4 (.slice (some ⟨g, 0, none⟩) L.asks.length ac) L.asks.length (celC ordE L.asks)) => deleteO_is B i (i + 1) rfl (.slice (some ⟨g, 0, none⟩) L.asks.length ac) L.asks W hW hi)
          rw [take_erase] at HDD
          obtain ⟨x, hx⟩ : ∃ x, x = L.asks[i] := ⟨_, rfl⟩
          rw [← hx] at g0 g1 g2 g3 X3 N3
          have HX := hideIt hx
          have HPR := hideIt HQ.out
          rw [← hx] at HPR
          clear hx hb3 HQ
          obtain ⟨xi, xac, xp, xl⟩ := x
          unfold ordE at X3 N3
          dsimp only at g0 g1 g2 g3 X3 N3
          go_upto_region 8 with fail
          clear c0 c1 c2 c3 c4 c5 hDl g0 g1 g2 g3 hgl
          generalize w2.alloc (.cells #[.int .i64 xi, .int .i64 xac, .int .i64 xp, .int .i64 xl] 47) = W3 at *
          generalize w2.heap.size = K at *
          obtain ⟨c0, c1, c2, c3, c4, c5⟩ := X3.out.deal.cells
          have hDl := X3.out.deal.lt
          go_wp2_with fail
          refine (HDD.out _ X3.out.deal.oa).mono ?_
          rintro e w4 ⟨v4, rfl, ho, hg, hob⟩
          dsimp only
          obtain ⟨va, vc, rfl⟩ := own_len ho
          obtain ⟨hD4, e1, e2, e3⟩ := dealA_del X3.out.deal ho hg hob
          have hgK : K ≠ g := fun e => by have := G0.out; have := S3.out.1; omega
          have hgR : w.heap.size + 2 ≠ g := fun e => by have := G0.out; omega
          have hDK : K ≠ D := fun e => by have := S3.out.2.1; omega
          have hDR : w.heap.size + 2 ≠ D := fun e => by have := hD0.out; omega
          have N4 := hideIt (setOther (b := D) (j := 3) (.slice va (L.asks.eraseIdx i).length vc) ((hg.block K (Array.getElem?_eq_some_iff.1 N3.out).1 (fun e => by simp only [Value.ownBlock, Option.some.injEq] at e; exact hgK e)).trans N3.out) hDK)
          have R4 := hideIt (setOther (b := D) (j := 3) (.slice va (L.asks.eraseIdx i).length vc) ((hg.block _ (Array.getElem?_eq_some_iff.1 X3.out.b2).1 (fun e => by simp only [Value.ownBlock, Option.some.injEq] at e; exact hgR e)).trans X3.out.b2) hDR)
          have D4 := hideIt hD4
          have T4 := hideIt (((Tcr.ofTch (q := (Value.slice (some ⟨g, 0, none⟩) L.asks.length ac).ownBlock) (Tch.ofBelow (D := D) (B := B) X3.out.bel)).trans (Tcr.ofGrown (D := D) (B := B) hg)).setD (j := 3) (.slice va (L.asks.eraseIdx i).length vc))
          have OB := hideIt hob
          have Z4 : Hid (B ≤ (w4.setCell ⟨D, 3, none⟩ (.slice va (L.asks.eraseIdx i).length vc)).heap.size) := Nat.le_trans hB T4.out.size
          clear hD4 ho hg hob hgK hgR c0 c1 c2 c3 c4 c5 hDl HDD X3 N3
          go_upto_region 9 with fail
          clear e1 e2 e3
          generalize w4.setCell ⟨D, 3, none⟩ (.slice va (L.asks.eraseIdx i).length vc) = W5 at *
          have HGB := hideIt (giveBack_is D B c _ F _ _ o f 2 ⟨xi, xac, xp, xl⟩ W5 D4.out Z4.out HOK.out.1 HOK.out.2 (show 0 ≤ xp ∧ xp ≤ 1000000 by have := HPR.out; omega) (show 0 ≤ xl ∧ xl ≤ 1000000 by have := HPR.out; omega))
          unfold ordE at HGB
          dsimp only at HGB
          obtain ⟨y0, y1, y2, y3, yl⟩ := four_at N4.out
          go_wp2_with fail
          refine HGB.out.mono ?_
          rintro e w6 ⟨rfl, o6, hD6, hT6⟩
          dsimp only
          have N6 := hT6.block N4.out hDK (by decide) (by decide)
          have R6 := hT6.block R4.out hDR (by decide) (by decide)
          have HD6 := hideIt hD6
          have T6 := hideIt (T4.out.trans (Tcr.ofTch hT6))
          clear hD6 hT6 y0 y1 y2 y3 yl HGB D4 T4 N4 R4 Z4
          obtain ⟨y0, y1, y2, y3, yl⟩ := four_at N6
          obtain ⟨z0, z1, z2, z3, zl⟩ := four_at (p := w.heap.size + 1 + 1) R6
          have zf : ∀ j, w6.frozen? ⟨w.heap.size + 1 + 1, j, none⟩ = false := fun j => free_at (p := w.heap.size + 1 + 1) R6 j
          have HP := hideIt (put4 w6 (w.heap.size + 1 + 1) 47 (.int .i64 xi) (.int .i64 xac) (.int .i64 xp) (.int .i64 xl) R6)
          have HDF := hideIt (deal_put4 (v0 := .int .i64 xi) (v1 := .int .i64 xac) (v2 := .int .i64 xp) (v3 := .int .i64 xl) HD6.out R6 hDR (fun e => by have := (GB.out _ e).2; omega) (by rw [OB.out]; simp only [Value.ownBlock, ne_eq, Option.some.injEq]; have := G0.out; omega))
          have HTF := hideIt ((((T6.out.set (k := w.heap.size + 1 + 1) (j := 0) (by omega) (.int .i64 xi)).set (k := w.heap.size + 1 + 1) (j := 1) (by omega) (.int .i64 xac)).set (k := w.heap.size + 1 + 1) (j := 2) (by omega) (.int .i64 xp)).set (k := w.heap.size + 1 + 1) (j := 3) (by omega) (.int .i64 xl))
          have nK : K ≠ w.heap.size + 1 + 1 := by have := S3.out.1; omega
          clear HD6 T6 N6 R6 S3 hDK hDR
          go_wp2
          revert HP HDF HTF
          generalize (World.setCell _ ⟨w.heap.size + 1 + 1, 3, none⟩ _) = WW
          intro HP HDF HTF
          exact bodyPost_ret (v := .tuple #[.agg #[.int .i64 xi, .int .i64 xac, .int .i64 xp, .int .i64 xl], .bool true]) (by simp [results, Try.results44, go_sem, cell_at HP.out]) rfl (.inl ⟨_, _, HRES.out, by rw [← HX.out]; rfl, _, _, _, _, by rw [← HX.out]; exact HDF.out, HTF.out, by first | exact .inl rfl | exact .inr rfl⟩)
    | none =>
      rw [show idxI (outP acc id) L.asks = -1 by unfold idxI; rw [hfa]] at HI2
      have HRES : Hid (canF L acc id = none) := by
        show _ = _
        unfold canF
        rw [hfb, hfa]
      clear hfb hfa hob hoa ho hc
      go_enter Try.func44, Try.ntmps44
      go_wp2_with fail
      refine (HBS.out _).mono ?_
      rintro e w1 ⟨rfl, hb⟩
      dsimp only
      have X := hideIt (X0.out.keep hb)
      clear hb X0 HBS
      go_upto_region 2 with fail
      go_loopw [14] (fun v wr => ∃ k : Int, v = .int .i64 k ∧ (k = 0 ∨ k = 1 ∨ k = 2) ∧ Hid (TK w D B L F (.slice ba L.bids.length bc) (.slice aa L.asks.length ac) o f acc id wr)) (fun v _ => 2 - (intOf v).toNat)
      case atStart => exact ⟨0, rfl, .inl rfl, X⟩
      case round =>
        clear X
        obtain ⟨k, rfl, hk, X⟩ := hrel
        obtain ⟨c0, c1, c2, c3, c4, c5⟩ := X.out.deal.cells
        have hDl := X.out.deal.lt
        rcases hk with rfl | rfl | rfl
        · go_wp2_with fail
          refine (HO1.out _).mono ?_
          rintro e wr ⟨rfl, rfl⟩
          dsimp only
          go_wp2_with fail
          refine (HI1.out _ X.out).mono ?_
          rintro e w2 ⟨rfl, hb⟩
          dsimp only
          have X2 := hideIt (X.out.keep hb)
          clear hb
          go_wp2
          go_roundw
          case rel => exact ⟨1, rfl, .inr (.inl rfl), X2⟩
          case measure => simp [intOf]
        · go_wp2_with fail
          refine (HO2.out _).mono ?_
          rintro e wr ⟨rfl, rfl⟩
          dsimp only
          go_wp2_with fail
          refine (HI2.out _ X.out).mono ?_
          rintro e w2 ⟨rfl, hb⟩
          dsimp only
          have X2 := hideIt (X.out.keep hb)
          clear hb
          go_wp2
          go_roundw
          case rel => exact ⟨2, rfl, .inr (.inr rfl), X2⟩
          case measure => simp [intOf]
        · obtain ⟨z0, z1, z2, z3, zl⟩ := four_at (p := w.heap.size + 1 + 1) X.out.b2
          have zf : ∀ j, wr.frozen? ⟨w.heap.size + 1 + 1, j, none⟩ = false := fun j => free_at (p := w.heap.size + 1 + 1) X.out.b2 j
          have HP := hideIt (put4 wr (w.heap.size + 1 + 1) 47 (.int .i64 0) (.int .i64 0) (.int .i64 0) (.int .i64 0) X.out.b2)
          have HBF := hideIt (belowSet (j := 3) (.int .i64 0) (belowSet (j := 2) (.int .i64 0) (belowSet (j := 1) (.int .i64 0) (belowSet (j := 0) (.int .i64 0) X.out.bel (b := w.heap.size + 1 + 1) (by omega)) (b := w.heap.size + 1 + 1) (by omega)) (b := w.heap.size + 1 + 1) (by omega)) (b := w.heap.size + 1 + 1) (by omega))
          go_wp2
          revert HP HBF
          generalize (World.setCell _ ⟨w.heap.size + 1 + 1, 3, none⟩ _) = WW
          intro HP HBF
          exact bodyPost_ret (v := .tuple #[.agg #[.int .i64 0, .int .i64 0, .int .i64 0, .int .i64 0], .bool false]) (by simp [results, Try.results44, go_sem, cell_at HP.out]) rfl (.inr ⟨HRES.out, rfl, HBF.out⟩)
end Go.Proofs.Ytbpnnhalajbjnaa
