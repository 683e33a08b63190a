/- An order that is being placed, by the document: in memory. -/
import Derived.Test.YtgnmghcdfihmgaaRBk
import Derived.Deep.LoopGhost
namespace Go.Proofs.Ytgnmghcdfihmgaa
open Go.RowKit
set_option linter.all false
def plcA (M : LaneV) (x : OrdV) (s : Int) (ok : Bool) (b a o f : Value) : Array Value := #[.bool M.call, .int .i64 M.next, b, a, o, .int .i64 x.id, .int .i64 x.acc, .int .i64 x.price, .int .i64 x.left, .int .i64 s, f, .bool ok]
structure TD (B P : Nat) (M : LaneV) (x : OrdV) (s : Int) (F : List FillV) (ok : Bool) (b a o f : Value) (W : World) : Prop where
  pb : W.heap[P]? = some (.cells (plcA M x s ok b a o f) 60 (0, 0))
  ob : W.ownsRow B 38 4 b M.bids.length (celC ordE M.bids)
  oa : W.ownsRow B 38 4 a M.asks.length (celC ordE M.asks)
  oo : W.ownsRow B 48 3 o M.owed.length (celC oweE M.owed)
  fl : W.ownsRow B 41 4 f F.length (celC filE F)
theorem TD.keep {B P : Nat} {M : LaneV} {x : OrdV} {s : Int} {F : List FillV} {ok : Bool} {b a o f : Value} {W W' : World} (h : TD B P M x s F ok b a o f W) (hb : Below W.heap.size W W') : TD B P M x s F ok b a o f W' := ⟨blkK h.pb hb, own_keep h.ob hb, own_keep h.oa hb, own_keep h.oo hb, own_keep h.fl hb⟩
theorem TD.left {B P : Nat} {M : LaneV} {x : OrdV} {s : Int} {F : List FillV} {ok : Bool} {b a o f : Value} {W : World} (h : TD B P M x s F ok b a o f W) (n : Int) : TD B P M ⟨x.id, x.acc, x.price, n⟩ s F ok b a o f (W.setCell ⟨P, 8, none⟩ (.int .i64 n)) := ⟨heap_set h.pb 8 _, own_cell h.ob h.pb (by decide), own_cell h.oa h.pb (by decide), own_cell h.oo h.pb (by decide), own_cell h.fl h.pb (by decide)⟩
theorem TD.okk {B P : Nat} {M : LaneV} {x : OrdV} {s : Int} {F : List FillV} {ok : Bool} {b a o f : Value} {W : World} (h : TD B P M x s F ok b a o f W) (k : Bool) : TD B P M x s F k b a o f (W.setCell ⟨P, 11, none⟩ (.bool k)) := ⟨heap_set h.pb 11 _, own_cell h.ob h.pb (by decide), own_cell h.oa h.pb (by decide), own_cell h.oo h.pb (by decide), own_cell h.fl h.pb (by decide)⟩
theorem TD.next {B P : Nat} {M : LaneV} {x : OrdV} {s : Int} {F : List FillV} {ok : Bool} {b a o f : Value} {W : World} (h : TD B P M x s F ok b a o f W) (n : Int) : TD B P ⟨M.call, n, M.bids, M.asks, M.owed⟩ x s F ok b a o f (W.setCell ⟨P, 1, none⟩ (.int .i64 n)) := ⟨heap_set h.pb 1 _, own_cell h.ob h.pb (by decide), own_cell h.oa h.pb (by decide), own_cell h.oo h.pb (by decide), own_cell h.fl h.pb (by decide)⟩
theorem TD.bids {B P : Nat} {M : LaneV} {x : OrdV} {s : Int} {F : List FillV} {ok : Bool} {b a o f v : Value} {W : World} {l : List OrdV} (h : TD B P M x s F ok b a o f W) (ho : W.ownsRow B 38 4 v l.length (celC ordE l)) : TD B P ⟨M.call, M.next, l, M.asks, M.owed⟩ x s F ok v a o f (W.setCell ⟨P, 2, none⟩ v) := ⟨heap_set h.pb 2 _, own_cell ho h.pb (by decide), own_cell h.oa h.pb (by decide), own_cell h.oo h.pb (by decide), own_cell h.fl h.pb (by decide)⟩
theorem TD.asks {B P : Nat} {M : LaneV} {x : OrdV} {s : Int} {F : List FillV} {ok : Bool} {b a o f v : Value} {W : World} {l : List OrdV} (h : TD B P M x s F ok b a o f W) (ho : W.ownsRow B 38 4 v l.length (celC ordE l)) : TD B P ⟨M.call, M.next, M.bids, l, M.owed⟩ x s F ok b v o f (W.setCell ⟨P, 3, none⟩ v) := ⟨heap_set h.pb 3 _, own_cell h.ob h.pb (by decide), own_cell ho h.pb (by decide), own_cell h.oo h.pb (by decide), own_cell h.fl h.pb (by decide)⟩
theorem TD.owed {B P : Nat} {M : LaneV} {x : OrdV} {s : Int} {F : List FillV} {ok : Bool} {b a o f v : Value} {W : World} {l : List OweV} (h : TD B P M x s F ok b a o f W) (ho : W.ownsRow B 48 3 v l.length (celC oweE l)) : TD B P ⟨M.call, M.next, M.bids, M.asks, l⟩ x s F ok b a v f (W.setCell ⟨P, 4, none⟩ v) := ⟨heap_set h.pb 4 _, own_cell h.ob h.pb (by decide), own_cell h.oa h.pb (by decide), own_cell ho h.pb (by decide), own_cell h.fl h.pb (by decide)⟩
theorem TD.fills {B P : Nat} {M : LaneV} {x : OrdV} {s : Int} {F G : List FillV} {ok : Bool} {b a o f v : Value} {W : World} (h : TD B P M x s F ok b a o f W) (ho : W.ownsRow B 41 4 v G.length (celC filE G)) : TD B P M x s G ok b a o v (W.setCell ⟨P, 10, none⟩ v) := ⟨heap_set h.pb 10 _, own_cell h.ob h.pb (by decide), own_cell h.oa h.pb (by decide), own_cell h.oo h.pb (by decide), own_cell ho h.pb (by decide)⟩
/-- A box of the call's own is written. -/
theorem TD.box {B P K j : Nat} {M : LaneV} {x : OrdV} {s : Int} {F : List FillV} {ok : Bool} {b a o f u : Value} {W : World} (h : TD B P M x s F ok b a o f W) (hP : P ≠ K) (hb : b.ownBlock ≠ some K) (ha : a.ownBlock ≠ some K) (ho : o.ownBlock ≠ some K) (hf : f.ownBlock ≠ some K) : TD B P M x s F ok b a o f (W.setCell ⟨K, j, none⟩ u) := ⟨setOther _ h.pb hP, own_ne h.ob hb, own_ne h.oa ha, own_ne h.oo ho, own_ne h.fl hf⟩
theorem TD.cells {B P : Nat} {M : LaneV} {x : OrdV} {s : Int} {F : List FillV} {ok : Bool} {b a o f : Value} {W : World} (h : TD B P M x s F ok b a o f W) : (W.cell? ⟨P, 0, none⟩ = some (.bool M.call) ∧ W.cell? ⟨P, 1, none⟩ = some (.int .i64 M.next) ∧ W.cell? ⟨P, 2, none⟩ = some b ∧ W.cell? ⟨P, 3, none⟩ = some a ∧ W.cell? ⟨P, 4, none⟩ = some o ∧ W.cell? ⟨P, 5, none⟩ = some (.int .i64 x.id) ∧ W.cell? ⟨P, 6, none⟩ = some (.int .i64 x.acc) ∧ W.cell? ⟨P, 7, none⟩ = some (.int .i64 x.price) ∧ W.cell? ⟨P, 8, none⟩ = some (.int .i64 x.left) ∧ W.cell? ⟨P, 9, none⟩ = some (.int .i64 s) ∧ W.cell? ⟨P, 10, none⟩ = some f ∧ W.cell? ⟨P, 11, none⟩ = some (.bool ok)) ∧ (∀ j, W.frozen? ⟨P, j, none⟩ = false) ∧ P < W.heap.size :=
  ⟨⟨by rw [cell_at h.pb]; rfl, by rw [cell_at h.pb]; rfl, by rw [cell_at h.pb]; rfl, by rw [cell_at h.pb]; rfl, by rw [cell_at h.pb]; rfl, by rw [cell_at h.pb]; rfl, by rw [cell_at h.pb]; rfl, by rw [cell_at h.pb]; rfl, by rw [cell_at h.pb]; rfl, by rw [cell_at h.pb]; rfl, by rw [cell_at h.pb]; rfl, by rw [cell_at h.pb]; rfl⟩, fun j => free_at h.pb j, (Array.getElem?_eq_some_iff.1 h.pb).1⟩
/-- All that is new lies behind. -/
theorem TD.lt {B P : Nat} {M : LaneV} {x : OrdV} {s : Int} {F : List FillV} {ok : Bool} {b a o f : Value} {W : World} (h : TD B P M x s F ok b a o f W) {K : Nat} (hK : W.heap.size ≤ K) : P ≠ K ∧ b.ownBlock ≠ some K ∧ a.ownBlock ≠ some K ∧ o.ownBlock ≠ some K ∧ f.ownBlock ≠ some K := by
  refine ⟨by have := (Array.getElem?_eq_some_iff.1 h.pb).1; omega, fun e => ?_, fun e => ?_, fun e => ?_, fun e => ?_⟩
  · have := (h.ob.lt _ e).2; omega
  · have := (h.oa.lt _ e).2; omega
  · have := (h.oo.lt _ e).2; omega
  · have := (h.fl.lt _ e).2; omega
theorem SGot.part {α : Type} {k bytes : Nat} {enc : α → List Value} (hk : ∀ x, (enc x).length = k) {w : World} {a : Option Addr} {c : Nat} {l : List α} (h : SGot k bytes enc w (.slice a l.length c) l) (p n c2 : Nat) (hp : p + n ≤ l.length) (hc2 : n ≤ c2 ∧ c2 ≤ maxLen) (a2 : Option Addr) (ha : 0 < n → ∀ b off, a = some ⟨b, off, none⟩ → a2 = some ⟨b, off + p * k, none⟩) : SGot k bytes enc w (.slice a2 n c2) ((l.drop p).take n) := by
  have hlen : ((l.drop p).take n).length = n := by
    rw [List.length_take, List.length_drop]
    omega
  obtain ⟨h8, a', c', e, _, hr⟩ := h
  simp only [Value.slice.injEq] at e
  obtain ⟨rfl, _, _⟩ := e
  refine ⟨?_, a2, c2, by rw [hlen], by rw [hlen]; exact hc2, fun hp0 => ?_⟩
  · rw [hlen]
    exact Nat.le_trans (Nat.mul_le_mul_right _ (by omega)) h8
  rw [hlen] at hp0
  obtain ⟨b, off, rfl, hlt, hc⟩ := hr (by omega)
  refine ⟨b, off + p * k, ha hp0 b off rfl, hlt, fun j hj => ?_⟩
  rw [hlen] at hj
  have hpj : p * k + j < l.length * k := by
    have : p * k + n * k ≤ l.length * k := by rw [← Nat.add_mul]; exact Nat.mul_le_mul_right _ hp
    omega
  rw [show off + p * k + j = off + (p * k + j) by omega, hc (p * k + j) hpj]
  have e1 : celC enc l = celC enc (l.take p) ++ (celC enc ((l.drop p).take n) ++ celC enc ((l.drop p).drop n)) := by
    rw [← celC_app, ← celC_app, List.take_append_drop, List.take_append_drop]
  have l1 : (celC enc (l.take p)).length = p * k := by
    rw [celC_len hk, List.length_take]
    congr 1
    omega
  rw [e1, List.getElem?_append_right (by omega), l1, Nat.add_sub_cancel_left, List.getElem?_append_left (by rw [celC_len hk, hlen]; exact hj)]
/-- A list behind nothing, or behind one. -/
theorem appR {W w : World} {B : Nat} {v g : Value} {xs l : List OrdV} (hB : B ≤ w.heap.size) (ho : w.ownsRow B 38 4 v xs.length (celC ordE xs)) (hg : Ords w g l) (hl : (xs.length + l.length) * 32 ≤ 140737488355328) (hW : Below B W w) :
    ∃ v' w', (Builtin.append_ #[22, 22] 22 #[v, g]).run Try.prog w = .ok v' w' ∧ w'.ownsRow B 38 4 v' (xs ++ l).length (celC ordE (xs ++ l)) ∧ w.grownBy w' v.ownBlock := by
  obtain ⟨a, c, rfl⟩ := hg.slice
  cases a with
  | none =>
    have h0 : l.length = 0 := by
      obtain ⟨_, a', c', e', _, hr⟩ := hg
      simp only [Value.slice.injEq] at e'
      rcases Nat.eq_zero_or_pos l.length with h0 | h0
      · exact h0
      · obtain ⟨b, off, hb, _⟩ := hr h0
        rw [← e'.1] at hb
        cases hb
    have hl0 : l = [] := List.length_eq_zero_iff.1 h0
    subst hl0
    exact ⟨v, w, app_none Try.underlying22 info36 w B v xs.length _ ho c, by rw [List.append_nil]; exact ho, grown_refl w _⟩
  | some b =>
    exact appL ordK ord1 Try.underlying22 info36 rfl (by omega) (by omega) w B v xs l b l.length c rfl hB ho hg hl
/-- The order that is being placed, the order that it meets in its box. -/
structure BX (w : World) (B P KX : Nat) (M : LaneV) (x : OrdV) (s : Int) (F : List FillV) (ok : Bool) (b a o f : Value) (y : OrdV) (W : World) : Prop where
  td : TD B P M x s F ok b a o f W
  bx : W.heap[KX]? = some (.cells (ordE y).toArray 38 (0, 0))
  nb : b.ownBlock ≠ some KX
  na : a.ownBlock ≠ some KX
  nP : P ≠ KX
  bel : Below B w W
  hP : B ≤ P
  hK : B ≤ KX
  sz : B ≤ W.heap.size
theorem BX.keep {w : World} {B P KX : Nat} {M : LaneV} {x y : OrdV} {s : Int} {F : List FillV} {ok : Bool} {b a o f : Value} {W W' : World} (h : BX w B P KX M x s F ok b a o f y W) (hb : Below W.heap.size W W') : BX w B P KX M x s F ok b a o f y W' := ⟨h.td.keep hb, blkK h.bx hb, h.nb, h.na, h.nP, h.bel.trans (hb.mono h.sz), h.hP, h.hK, Nat.le_trans h.sz hb.size⟩
theorem BX.setO {w : World} {B P KX : Nat} {M : LaneV} {x y : OrdV} {s : Int} {F : List FillV} {ok : Bool} {b a o f v : Value} {l : List OweV} {W : World} (h : BX w B P KX M x s F ok b a o f y W) (ho : W.ownsRow B 48 3 v l.length (celC oweE l)) : BX w B P KX ⟨M.call, M.next, M.bids, M.asks, l⟩ x s F ok b a v f y (W.setCell ⟨P, 4, none⟩ v) := ⟨h.td.owed ho, setOther _ h.bx h.nP.symm, h.nb, h.na, h.nP, belowSet _ h.bel h.hP, h.hP, h.hK, by simpa using h.sz⟩
theorem BX.setK {w : World} {B P KX : Nat} {M : LaneV} {x y : OrdV} {s : Int} {F : List FillV} {ok : Bool} {b a o f : Value} {W : World} (h : BX w B P KX M x s F ok b a o f y W) (k : Bool) : BX w B P KX M x s F k b a o f y (W.setCell ⟨P, 11, none⟩ (.bool k)) := ⟨h.td.okk k, setOther _ h.bx h.nP.symm, h.nb, h.na, h.nP, belowSet _ h.bel h.hP, h.hP, h.hK, by simpa using h.sz⟩
theorem BX.fills {w : World} {B P KX : Nat} {M : LaneV} {x y : OrdV} {s : Int} {F G : List FillV} {ok : Bool} {b a o f v : Value} {W : World} (h : BX w B P KX M x s F ok b a o f y W) (ho : W.ownsRow B 41 4 v G.length (celC filE G)) : BX w B P KX M x s G ok b a o v y (W.setCell ⟨P, 10, none⟩ v) := ⟨h.td.fills ho, setOther _ h.bx h.nP.symm, h.nb, h.na, h.nP, belowSet _ h.bel h.hP, h.hP, h.hK, by simpa using h.sz⟩
theorem BX.left {w : World} {B P KX : Nat} {M : LaneV} {x y : OrdV} {s : Int} {F : List FillV} {ok : Bool} {b a o f : Value} {W : World} (h : BX w B P KX M x s F ok b a o f y W) (n : Int) : BX w B P KX M ⟨x.id, x.acc, x.price, n⟩ s F ok b a o f y (W.setCell ⟨P, 8, none⟩ (.int .i64 n)) := ⟨h.td.left n, setOther _ h.bx h.nP.symm, h.nb, h.na, h.nP, belowSet _ h.bel h.hP, h.hP, h.hK, by simpa using h.sz⟩
theorem BX.xleft {w : World} {B P KX : Nat} {M : LaneV} {x y : OrdV} {s : Int} {F : List FillV} {ok : Bool} {b a o f : Value} {W : World} (h : BX w B P KX M x s F ok b a o f y W) (n : Int) : BX w B P KX M x s F ok b a o f ⟨y.id, y.acc, y.price, n⟩ (W.setCell ⟨KX, 3, none⟩ (.int .i64 n)) := ⟨⟨setOther _ h.td.pb h.nP, own_ne h.td.ob h.nb, own_ne h.td.oa h.na, own_cell h.td.oo h.bx (by decide), own_cell h.td.fl h.bx (by decide)⟩, heap_set h.bx 3 _, h.nb, h.na, h.nP, belowSet _ h.bel h.hK, h.hP, h.hK, by simpa using h.sz⟩
theorem ty_ne {W : World} {b k : Nat} {cs cur : Array Value} {t e : TypeId} (h : W.heap[b]? = some (.cells cs t (0, 0))) (hg : W.heap[k]? = some (.cells cur e (0, 0))) (hne : t ≠ e) : b ≠ k := fun e1 => by rw [e1, hg] at h; simp at h; exact hne h.2.symm
/-- The fill's box is written. -/
theorem BX.fbox {w : World} {B P KX KF j : Nat} {M : LaneV} {x y : OrdV} {s : Int} {F : List FillV} {ok : Bool} {b a o f u : Value} {W : World} {cs : Array Value} (h : BX w B P KX M x s F ok b a o f y W) (hf : W.heap[KF]? = some (.cells cs 41 (0, 0))) (hn : f.ownBlock ≠ some KF) (hB : B ≤ KF) : BX w B P KX M x s F ok b a o f y (W.setCell ⟨KF, j, none⟩ u) := ⟨⟨setOther _ h.td.pb (ty_ne h.td.pb hf (by decide)), own_cell h.td.ob hf (by decide), own_cell h.td.oa hf (by decide), own_cell h.td.oo hf (by decide), own_ne h.td.fl hn⟩, setOther _ h.bx (ty_ne h.bx hf (by decide)), h.nb, h.na, h.nP, belowSet _ h.bel hB, h.hP, h.hK, by simpa using h.sz⟩
/-- A fill behind the others. -/
theorem BX.app {w : World} {B P KX KF : Nat} {M : LaneV} {x y : OrdV} {s : Int} {F : List FillV} {ok : Bool} {b a o f : Value} {W : World} (h : BX w B P KX M x s F ok b a o f y W) (z : FillV) (hl : F.length ≤ 1000) (hf : W.heap[KF]? = some (.cells (filE z).toArray 41 (0, 0))) (hn : f.ownBlock ≠ some KF) : ∃ a' c' w', (Builtin.append_ #[30, 30] 30 #[f, .slice (some ⟨W.heap.size, 0, none⟩) 1 1]).run Try.prog (W.alloc (.cells (filE z).toArray 41)).drew = .ok (.slice a' (F.length + 1) c') w' ∧ BX w B P KX M x s (F ++ [z]) ok b a o (.slice a' (F.length + 1) c') y (w'.setCell ⟨P, 10, none⟩ (.slice a' (F.length + 1) c')) ∧ (w'.setCell ⟨P, 10, none⟩ (.slice a' (F.length + 1) c')).heap[KX]? = some (.cells (ordE y).toArray 38 (0, 0)) ∧ w'.cell? ⟨P, 10, none⟩ = some f ∧ w'.frozen? ⟨P, 10, none⟩ = false ∧ P < w'.heap.size := by
  have hb : Below W.heap.size W (W.alloc (.cells (filE z).toArray 41)).drew := (below1 W (.cells (filE z).toArray 41)).drew
  have h1 := h.keep hb
  have hO := h1.td.fl
  obtain ⟨v', w', hrun, how, hgr⟩ := app1 (enc := filE) (t := 30) filK fil1 Try.underlying30 info39 rfl (by omega) (W.alloc (.cells (filE z).toArray 41)).drew B f F z W.heap.size 1 h1.sz hO (heap_alloc_new W _) (by omega) (by unfold maxLen; omega)
  obtain ⟨a', c', rfl⟩ := own_len how
  have hlen : (F ++ [z]).length = F.length + 1 := by simp
  rw [hlen] at hrun how
  have hpn : ∀ {k : Nat} {cs : Array Value} {t : TypeId}, (W.alloc (.cells (filE z).toArray 41)).drew.heap[k]? = some (.cells cs t (0, 0)) → t ≠ 41 → w'.heap[k]? = some (.cells cs t (0, 0)) := fun {k cs t} hk ht => by
    refine (hgr.block _ (Array.getElem?_eq_some_iff.1 hk).1 (fun e => ?_)).trans hk
    obtain ⟨h0, hq | ⟨g, cap, cur, hv, _, hg, _⟩⟩ := hO
    · rw [hq.1] at e
      cases e
    · rw [hv] at e
      simp only [Value.ownBlock, Option.some.injEq] at e
      subst e
      rw [hg] at hk
      simp at hk
      exact ht hk.2.symm
  have hX : BX w B P KX M x s F ok b a o f y (W.alloc (.cells (filE z).toArray 41)).drew := h1
  have hpb := hpn hX.td.pb (by decide)
  have hbx := hpn hX.bx (by decide)
  have hsz : (W.alloc (.cells (filE z).toArray 41)).drew.heap.size ≤ w'.heap.size := hgr.size
  have hbel : Below B w w' := hX.bel.trans (Below.mono (Out.ofGrown (F := fun k => f.ownBlock = some k) hgr (fun k e => e) |>.below (B := B) hX.sz (fun k e => (hO.lt k e).1)) (Nat.le_refl _))
  refine ⟨a', c', w', hrun, ⟨⟨heap_set hpb 10 _, own_cell (own_type hgr hO hX.td.ob (by decide)) hpb (by decide), own_cell (own_type hgr hO hX.td.oa (by decide)) hpb (by decide), own_cell (own_type hgr hO hX.td.oo (by decide)) hpb (by decide), by rw [hlen]; exact own_cell how hpb (by decide)⟩, setOther _ hbx h.nP.symm, h.nb, h.na, h.nP, belowSet _ hbel h.hP, h.hP, h.hK, by simpa using Nat.le_trans hX.sz hsz⟩, setOther _ hbx h.nP.symm, by rw [cell_at hpb]; rfl, free_at hpb _, (Array.getElem?_eq_some_iff.1 hpb).1⟩
theorem trD_step {s : Int} {x r : OrdV} {rs : List OrdV} {left n : Int} {ow dl : List OweV} {F : List FillV} {dk : Bool} (hl : 0 < left) (hm : meetB s x.price r.price = true) (hn : n = min left r.left) (hd : dealD (setF s x r n) (btD s x r) ow = (dl, dk)) :
    (r.left - n = 0 → trD s x (r :: rs) left ow F = if dk = true then trD s x rs (left - n) dl (F ++ [setF s x r n]) else (rs, left - n, dl, F ++ [setF s x r n], false)) ∧ (¬ r.left - n = 0 → trD s x (r :: rs) left ow F = if dk = true then trD s x (⟨r.id, r.acc, r.price, r.left - n⟩ :: rs) (left - n) dl (F ++ [setF s x r n]) else (⟨r.id, r.acc, r.price, r.left - n⟩ :: rs, left - n, dl, F ++ [setF s x r n], false)) := by
  subst hn
  constructor
  · intro hz
    conv => lhs; unfold trD
    rw [if_pos ⟨hl, hm⟩, hd]
    cases dk
    · simp [hz]
    · simp [hz]
  · intro hz
    conv => lhs; unfold trD
    rw [if_pos ⟨hl, hm⟩, hd]
    have h0 : ¬ 0 < left - min left r.left := by omega
    cases dk
    · simp [hz]
    · simp only [if_true, Bool.true_eq_false, if_false, if_neg hz]
      unfold trD
      rw [if_neg (fun hc => h0 hc.1)]
/-- What is left of the other side: nothing of the first order. -/
theorem restA {w W : World} {B g off tc : Nat} {r : OrdV} {rs : List OrdV} (hB : B ≤ W.heap.size) (ho : W.ownsRow B 38 4 (.slice (some ⟨g, off, none⟩) (r :: rs).length tc) (r :: rs).length (celC ordE (r :: rs))) (hl : rs.length + 1 ≤ 40) :
    Ords W (.slice (if tc = 1 then some ⟨g, off, none⟩ else some ⟨g, off + 4, none⟩) ((r :: rs).length - 1) (tc - 1)) rs := by
  have hs : Ords W (.slice (some ⟨g, off, none⟩) (r :: rs).length tc) (r :: rs) := own_sgot ho (by simp; omega)
  have hcap := hs.cap
  have hlen : (r :: rs).length = rs.length + 1 := by simp
  have := SGot.part ordK hs 1 ((r :: rs).length - 1) (tc - 1) (by omega) ⟨by omega, by have := hcap.2; omega⟩ (if tc = 1 then some ⟨g, off, none⟩ else some ⟨g, off + 4, none⟩) (fun hp b' off' e => by
    rw [if_neg (by omega)]
    simp only [Option.some.injEq, Addr.mk.injEq] at e
    obtain ⟨rfl, rfl, _⟩ := e
    rfl)
  rw [List.drop_one, List.tail_cons, List.take_of_length_le (by rw [hlen]; omega)] at this
  exact this
theorem runA {W : World} {B : Nat} {v : Value} {rs : List OrdV} (hB : B ≤ W.heap.size) (hg : Ords W v rs) (hl : rs.length ≤ 40) : ∃ a' c' w', (Builtin.append_ #[22, 22] 22 #[.slice none 0 0, v]).run Try.prog W = .ok (.slice a' rs.length c') w' ∧ w'.ownsRow B 38 4 (.slice a' rs.length c') rs.length (celC ordE rs) ∧ Below W.heap.size W w' := by
  obtain ⟨v', w', hr, ho, hgr⟩ := appR (W := W) (B := W.heap.size) (xs := []) (Nat.le_refl _) (own_nil _ _) hg (by simp; omega) (Below.refl _ _)
  rw [List.nil_append] at ho
  obtain ⟨a', c', rfl⟩ := own_len ho
  exact ⟨a', c', w', hr, own_base ho hB, grown_none hgr⟩
theorem runB {W : World} {B : Nat} {v : Value} {rs : List OrdV} {x : OrdV} (hB : B ≤ W.heap.size) (hg : Ords W v rs) (hl : rs.length + 1 ≤ 40) : ∃ a1 c1 w1 a' c' w', (Builtin.append_ #[22, 22] 22 #[.slice none 0 0, .slice (some ⟨W.heap.size, 0, none⟩) 1 1]).run Try.prog (W.alloc (.cells (ordE x).toArray 38)) = .ok (.slice a1 1 c1) w1 ∧ (Builtin.append_ #[22, 22] 22 #[.slice a1 1 c1, v]).run Try.prog w1 = .ok (.slice a' (rs.length + 1) c') w' ∧ w'.ownsRow B 38 4 (.slice a' (rs.length + 1) c') (x :: rs).length (celC ordE (x :: rs)) ∧ Below W.heap.size W w' := by
  have hb := below1 W (.cells (ordE x).toArray 38)
  obtain ⟨v1, w1, hr1, ho1, hgr1⟩ := app1 (enc := ordE) (t := 22) ordK ord1 Try.underlying22 info36 rfl (by omega) (W.alloc (.cells (ordE x).toArray 38)) W.heap.size (.slice none 0 0) [] x W.heap.size 1 hb.size (own_nil _ _) (heap_alloc_new W _) (by simp) (by unfold maxLen; simp)
  obtain ⟨a1, c1, rfl⟩ := own_len ho1
  have hb1 := below_via hb (grown_none hgr1)
  obtain ⟨v', w', hr, ho, hgr⟩ := appR (W := w1) (B := W.heap.size) (xs := [x]) hb1.size ho1 (hg.keep hb1) (by simp; omega) (Below.refl _ _)
  obtain ⟨a', c', rfl⟩ := own_len ho
  have hlen : ([x] ++ rs).length = rs.length + 1 := by simp
  rw [hlen] at hr
  refine ⟨a1, c1, w1, a', c', w', hr1, hr, ?_, grown_own hgr ho1 (Nat.le_refl _) hb1⟩
  rw [hlen] at ho
  exact own_base ho hB
end Go.Proofs.Ytgnmghcdfihmgaa
