/- NetScripts, whole. -/
import Derived.Test.YtagfolckodpioaaArO
import Derived.Test.YtagfolckodpioaaAl
import Derived.Test.YtagfolckodpioaaN2
import Derived.Test.YtagfolckodpioaaR5
import Derived.Test.YtagfolckodpioaaTn
import Derived.BigQuiet
import Derived.Deep.RegionLaw
import Derived.Test.YtagfolckodpioaaKpP
import Derived.Test.YtagfolckodpioaaLn
import Derived.Deep.RegionHeld3
namespace Go.Proofs.Ytagfolckodpioaa.K2
open Go.RowKit Go.Maps Go.Proofs.Ytagfolckodpioaa
set_option linter.all false
/-- The net, what went in and what came out, on their way. -/
structure KS (w : World) (D n mb : Nat) (room : Int) (t : Nat) (I O l : List PkV) (iv ov row : Value) (sent taken : Int) (c : Nat) (f : Pks) (W : World) : Prop where
  na : NA D n mb room sent taken l row c f W
  ri : W.ownsRow D 56 3 iv I.length (celC pkE I)
  ro : W.ownsRow D 56 3 ov O.length (celC pkE O)
  d1 : ∀ k, iv.ownBlock = some k → row.ownBlock ≠ some k
  d2 : ∀ k, ov.ownBlock = some k → row.ownBlock ≠ some k
  d3 : ∀ k, iv.ownBlock = some k → ov.ownBlock ≠ some k
  ki : KI I O l f
  bel : Below w.heap.size w W
  hI : I.length ≤ t
  hs : 0 ≤ sent ∧ sent ≤ t
  ht : 0 ≤ taken ∧ taken ≤ t
  hc : c ≤ t
  hD : w.heap.size ≤ D
  hZ : D ≤ W.heap.size
  hn : D ≤ n
  hm : D ≤ mb
theorem KS.keep {w : World} {D n mb : Nat} {room : Int} {t : Nat} {I O l : List PkV} {iv ov row : Value} {sent taken : Int} {c : Nat} {f : Pks} {W W' : World} (h : KS w D n mb room t I O l iv ov row sent taken c f W) (hb : Below W.heap.size W W') : KS w D n mb room t I O l iv ov row sent taken c f W' :=
  ⟨h.na.keep hb, own_keep h.ri hb, own_keep h.ro hb, h.d1, h.d2, h.d3, h.ki, below_via h.bel hb, h.hI, h.hs, h.ht, h.hc, h.hD, Nat.le_trans h.hZ hb.size, h.hn, h.hm⟩
/-- A call of the net's own. -/
theorem KS.turn {w : World} {D n mb : Nat} {room : Int} {t : Nat} {I O l l' : List PkV} {iv ov row row' : Value} {sent taken sent' taken' : Int} {c c' : Nat} {f f' : Pks} {W W' : World} (h : KS w D n mb room t I O l iv ov row sent taken c f W) (hO : Out (NtF n mb row) W W') (hN : NA D n mb room sent' taken' l' row' c' f' W') (hx : NxR row row' W) :
    W'.ownsRow D 56 3 iv I.length (celC pkE I) ∧ W'.ownsRow D 56 3 ov O.length (celC pkE O) ∧ (∀ k, iv.ownBlock = some k → row'.ownBlock ≠ some k) ∧ (∀ k, ov.ownBlock = some k → row'.ownBlock ≠ some k) ∧ Below w.heap.size w W' := by
  have hrow : ∀ k, row.ownBlock = some k → D ≤ k := fun k e => (h.na.own.lt k e).1
  have hne : ∀ (v : Value) (J : List PkV), W.ownsRow D 56 3 v J.length (celC pkE J) → (∀ k, v.ownBlock = some k → row.ownBlock ≠ some k) → ∀ k, v.ownBlock = some k → row'.ownBlock ≠ some k := fun v J ho hd k hk e => by
    rcases hx with hx | ⟨q, hq, hqs⟩
    · exact hd k hk (by rw [← hx]; exact e)
    · have := (ho.lt k hk).2
      rw [hq] at e
      simp only [Option.some.injEq] at e
      omega
  refine ⟨row_stays h.na h.ri h.d1 hO, row_stays h.na h.ro h.d2 hO, hne iv I h.ri h.d1, hne ov O h.ro h.d2, ?_⟩
  refine below_out h.bel hO (fun k e => ?_)
  have h1 := h.hD
  have h2 := h.hn
  have h3 := h.hm
  rcases e with e | e | e
  · omega
  · omega
  · have := hrow k e
    omega
end Go.Proofs.Ytagfolckodpioaa.K2
namespace Go.Proofs.Ytagfolckodpioaa.K2
open Go.RowKit Go.Maps Go.Proofs.Ytagfolckodpioaa
set_option linter.all false
theorem sndE_ne (p : PkV) : sndE p ≠ 0 := by
  unfold sndE
  split
  · split <;> omega
  · omega
theorem box_stays {B n mb k : Nat} {room sent taken : Int} {l : List PkV} {row : Value} {c : Nat} {f : Pks} {W W' : World} {cs : Array Value} (h : NA B n mb room sent taken l row c f W) (hk : W.heap[k]? = some (.cells cs 58 (0, 0))) (hO : Out (NtF n mb row) W W') : W'.heap[k]? = some (.cells cs 58 (0, 0)) := by
  refine (hO.block k (Array.getElem?_eq_some_iff.1 hk).1 (fun e => ?_)).trans hk
  rcases e with e | e | e
  · rw [e, h.blk] at hk
    simp at hk
  · exact h.mp.nb hk e.symm
  · obtain ⟨_, ⟨hr, _⟩ | ⟨g, cap, cur, hr, _, hg, _⟩⟩ := h.own
    · rw [hr] at e
      cases e
    · rw [hr] at e
      simp only [Value.ownBlock, Option.some.injEq] at e
      rw [← e, hg] at hk
      simp at hk
theorem rowApp {w : World} {D n mb : Nat} {room sent taken : Int} {l J U : List PkV} {row v u : Value} {c : Nat} {f : Pks} {W : World} (hna : NA D n mb room sent taken l row c f W) (hv : W.ownsRow D 56 3 v J.length (celC pkE J)) (hu : W.ownsRow D 56 3 u U.length (celC pkE U)) (d1 : ∀ k, v.ownBlock = some k → row.ownBlock ≠ some k) (d3 : ∀ k, v.ownBlock = some k → u.ownBlock ≠ some k) (bel : Below w.heap.size w W) (hD : w.heap.size ≤ D) (hZ : D ≤ W.heap.size) (hJ : J.length ≤ 1000) (x : PkV) :
    ∃ a' c' w', (Builtin.append_ #[63, 63] 63 #[v, .slice (some ⟨W.heap.size, 0, none⟩) 1 1]).run Try.prog (W.alloc (.cells #[.int .i64 x.frm, .int .i64 x.dst, .string x.text] 56)) = .ok (.slice a' (J.length + 1) c') w' ∧ NA D n mb room sent taken l row c f w' ∧ w'.ownsRow D 56 3 (.slice a' (J.length + 1) c') (J ++ [x]).length (celC pkE (J ++ [x])) ∧ w'.ownsRow D 56 3 u U.length (celC pkE U) ∧ (∀ k, (Value.slice a' (J.length + 1) c').ownBlock = some k → row.ownBlock ≠ some k) ∧ (∀ k, (Value.slice a' (J.length + 1) c').ownBlock = some k → u.ownBlock ≠ some k) ∧ Below w.heap.size w w' ∧ W.heap.size ≤ w'.heap.size := by
  have hb := below1 W (.cells #[.int .i64 x.frm, .int .i64 x.dst, .string x.text] 56)
  have hna1 := hna.keep hb
  have hv1 := own_keep hv hb
  have hu1 := own_keep hu hb
  obtain ⟨v', w', hrun, how, hgr, hat⟩ := app1At (enc := pkE) (t := 63) pkE_len pkE_one Try.underlying63 info56 rfl (by omega) (W.alloc (.cells #[.int .i64 x.frm, .int .i64 x.dst, .string x.text] 56)) D v J x W.heap.size 1 (Nat.le_trans hZ hb.size) hv1 (heap_alloc_new W _) (by omega) (by unfold maxLen; omega)
  obtain ⟨a', c', rfl⟩ := own_len how
  have hlen : (J ++ [x]).length = J.length + 1 := by simp
  rw [hlen] at hrun how hat
  have keepRow : ∀ (z : Value) (m : Nat) (zs : List Value), (W.alloc (.cells #[.int .i64 x.frm, .int .i64 x.dst, .string x.text] 56)).ownsRow D 56 3 z m zs → (∀ k, v.ownBlock = some k → z.ownBlock ≠ some k) → w'.ownsRow D 56 3 z m zs := fun z m zs hz hd => by
    refine hz.kept hgr ?_
    cases hzb : z.ownBlock with
    | none => exact .inl rfl
    | some k => exact .inr (fun e => hd k e.symm hzb)
  have hfresh : ∀ (z : Value) (m : Nat) (zs : List Value), W.ownsRow D 56 3 z m zs → (∀ k, v.ownBlock = some k → z.ownBlock ≠ some k) → ∀ k, (Value.slice a' (J.length + 1) c').ownBlock = some k → z.ownBlock ≠ some k := fun z m zs hz hd k hk e => by
    rcases hat with h | h
    · exact hd k (by rw [← h]; exact hk) e
    · have h1 := (hz.lt k e).2
      rw [h] at hk
      simp only [Option.some.injEq] at hk
      have h2 := hb.size
      omega
  refine ⟨a', c', w', hrun, ⟨box_type hgr hv1 hna1.blk (by decide), keepRow _ _ _ hna1.own d1, hna1.mp.block (hgr.block mb hna1.mp.lt (fun e => hna1.mp.row hv1 e.symm))⟩, by rw [hlen]; exact how, keepRow _ _ _ hu1 d3, hfresh _ _ _ hna.own d1, hfresh _ _ _ hu d3, ?_, Nat.le_trans hb.size hgr.size⟩
  exact grown_own hgr hv1 hD (below_via bel hb)
end Go.Proofs.Ytagfolckodpioaa.K2
namespace Go.Proofs.Ytagfolckodpioaa.K2
open Go.RowKit Go.Maps Go.Proofs.Ytagfolckodpioaa
set_option linter.all false
theorem app_none {t e : TypeId} {z : Value} {k bytes : Nat} (ht : Try.prog.underlying t = some (.slice e)) (hi : (Try.prog.info? e).map (fun i => (i.zero, i.size, i.bytes)) = some (some z, k, bytes)) (w : World) (B : Nat) (v : Value) (n : Nat) (xs : List Value) (hown : w.ownsRow B e k v n xs) (c : Nat) : (Builtin.append_ #[t, t] t #[v, .slice none 0 c]).run Try.prog w = .ok v w := by
  obtain ⟨i, hi, hz0, hz1, hz2⟩ := info_parts hi
  rcases hown.2 with ⟨rfl, rfl⟩ | ⟨g, cap, cur, rfl, _, _, hnc, _⟩
  · simp [Builtin.append_, run_underlying ht, sizeOf, typeInfo, hi, Builtin.lenOf, Builtin.firstCells]
  · simp [Builtin.append_, run_underlying ht, sizeOf, typeInfo, hi, Builtin.lenOf, Builtin.firstCells, hnc, storeCells]
theorem app0 {α : Type} {k bytes : Nat} {enc : α → List Value} {t e : TypeId} {z : Value} (hk : ∀ x, (enc x).length = k) (h1 : ∀ x, ∀ u ∈ enc x, u.oneCell' = true) (ht : Try.prog.underlying t = some (.slice e))
    (hi : (Try.prog.info? e).map (fun i => (i.zero, i.size, i.bytes)) = some (some z, k, bytes)) (hz : z.cells.size = k) (hk0 : 0 < k) (hb0 : 8 ≤ bytes) (w : World) (g : Value) (l : List α) (hg : SGot k bytes enc w g l) :
    ∃ a' c' w', (Builtin.append_ #[t, t] t #[.slice none 0 0, g]).run Try.prog w = .ok (.slice a' l.length c') w' ∧ w'.ownsRow w.heap.size e k (.slice a' l.length c') l.length (celC enc l) ∧ Below w.heap.size w w' := by
  obtain ⟨a, c, rfl⟩ := hg.slice
  cases a with
  | none =>
    have h0 : l.length = 0 := by
      obtain ⟨_, a', c', e', _, hr⟩ := hg
      simp only [Value.slice.injEq] at e'
      rcases Nat.eq_zero_or_pos l.length with h0 | h0
      · exact h0
      · obtain ⟨b, off, hb, _⟩ := hr h0
        rw [← e'.1] at hb
        cases hb
    have hl0 : l = [] := List.length_eq_zero_iff.1 h0
    subst hl0
    exact ⟨none, 0, w, app_none ht hi w w.heap.size _ 0 [] (own_nil _ _) c, own_nil _ _, Below.refl _ _⟩
  | some b =>
    obtain ⟨v', w', hrun, how, hgr⟩ := appL hk h1 ht hi hz hk0 hb0 w w.heap.size (.slice none 0 0) [] l b l.length c rfl (Nat.le_refl _) (own_nil _ _) hg (by have := hg.1; simpa using this)
    rw [List.nil_append] at how
    obtain ⟨a', c', rfl⟩ := own_len how
    refine ⟨a', c', w', hrun, how, (Out.ofGrown (F := fun _ => False) hgr (fun k h => by cases h)).below (Nat.le_refl _) (fun _ h => h.elim)⟩
theorem SGot.upto {α : Type} {k bytes : Nat} {enc : α → List Value} {w : World} {a : Option Addr} {c : Nat} {l : List α} (hk : ∀ x, (enc x).length = k) (h : SGot k bytes enc w (.slice a l.length c) l) (t : Nat) (ht : t ≤ l.length) : SGot k bytes enc w (.slice a t c) (l.take t) := by
  obtain ⟨h8, a', c', e, hc, hr⟩ := h
  simp only [Value.slice.injEq, true_and] at e
  obtain ⟨rfl, rfl⟩ := e
  have hl : (l.take t).length = t := by rw [List.length_take]; omega
  refine ⟨by rw [hl]; exact Nat.le_trans (Nat.mul_le_mul_right _ ht) h8, a, c, by rw [hl], ⟨by rw [hl]; omega, hc.2⟩, fun hp => ?_⟩
  rw [hl] at hp
  obtain ⟨b, off, ha, hb, hcell⟩ := hr (by omega)
  refine ⟨b, off, ha, hb, fun j hj => ?_⟩
  rw [hl] at hj
  have hjl : j < l.length * k := Nat.lt_of_lt_of_le hj (Nat.mul_le_mul_right _ ht)
  rw [hcell j hjl, ← celC_take hk, List.getElem?_take, if_pos hj]
theorem SGot.from {α : Type} {k bytes : Nat} {enc : α → List Value} {w : World} {a : Option Addr} {c : Nat} {l : List α} (hk : ∀ x, (enc x).length = k) (h : SGot k bytes enc w (.slice a l.length c) l) (t : Nat) (ht : t ≤ l.length) : SGot k bytes enc w (.slice (if c = t then a else a.map (·.add (t * k))) (l.length - t) (c - t)) (l.drop t) := by
  obtain ⟨h8, a', c', e, hc, hr⟩ := h
  simp only [Value.slice.injEq, true_and] at e
  obtain ⟨rfl, rfl⟩ := e
  have hl : (l.drop t).length = l.length - t := List.length_drop
  refine ⟨by rw [hl]; exact Nat.le_trans (Nat.mul_le_mul_right _ (Nat.sub_le _ _)) h8, _, _, by rw [hl], ⟨by rw [hl]; omega, by omega⟩, fun hp => ?_⟩
  rw [hl] at hp
  obtain ⟨b, off, ha, hb, hcell⟩ := hr (by omega)
  subst ha
  refine ⟨b, off + t * k, by rw [if_neg (by omega)]; simp only [Option.map_some, addN], hb, fun j hj => ?_⟩
  rw [hl, Nat.sub_mul] at hj
  have hle : t * k ≤ l.length * k := Nat.mul_le_mul_right _ ht
  rw [Nat.add_assoc, hcell (t * k + j) (by omega), ← celC_drop hk, List.getElem?_drop]
/-- Whatever list behind one of the call's own. -/
theorem appG {α : Type} {k bytes : Nat} {enc : α → List Value} {t e : TypeId} {z : Value} (hk : ∀ x, (enc x).length = k) (h1 : ∀ x, ∀ u ∈ enc x, u.oneCell' = true) (ht : Try.prog.underlying t = some (.slice e))
    (hi : (Try.prog.info? e).map (fun i => (i.zero, i.size, i.bytes)) = some (some z, k, bytes)) (hz : z.cells.size = k) (hk0 : 0 < k) (hb0 : 8 ≤ bytes) (w : World) (B : Nat) (v : Value) (xs l : List α) (g : Value) (hB : B ≤ w.heap.size)
    (ho : w.ownsRow B e k v xs.length (celC enc xs)) (hg : SGot k bytes enc w g l) (hl : (xs.length + l.length) * bytes ≤ 140737488355328) :
    ∃ v' w', (Builtin.append_ #[t, t] t #[v, g]).run Try.prog w = .ok v' w' ∧ w'.ownsRow B e k v' (xs ++ l).length (celC enc (xs ++ l)) ∧ w.grownBy w' v.ownBlock := by
  obtain ⟨a, c, rfl⟩ := hg.slice
  cases a with
  | none =>
    have h0 : l.length = 0 := by
      obtain ⟨_, a', c', e', _, hr⟩ := hg
      simp only [Value.slice.injEq] at e'
      rcases Nat.eq_zero_or_pos l.length with h0 | h0
      · exact h0
      · obtain ⟨b, off, hb, _⟩ := hr h0
        rw [← e'.1] at hb
        cases hb
    have hl0 : l = [] := List.length_eq_zero_iff.1 h0
    subst hl0
    refine ⟨v, w, app_none ht hi w B v _ _ ho c, ?_, grown_refl _ _⟩
    rw [List.append_nil]
    exact ho
  | some b => exact appL hk h1 ht hi hz hk0 hb0 w B v xs l b l.length c rfl hB ho hg hl
theorem sizeP (w : World) : (Go.sizeOf 56).run Try.prog w = .ok 3 w := by simp [go_sem]
theorem run_upto (a : Option Addr) (n c t : Nat) (ht : t ≤ c) (W : World) : (Instr.slice 63 (.slice a n c) none (some (.int .i64 (t : Int))) none).run Try.prog W = .ok (.slice a t c) W := by
  have ht' : Try.prog.underlying 63 = some (.slice (Try.prog.elem 63)) := by simp [Program.elem, Try.underlying63]
  have he : Try.prog.elem 63 = 56 := by simp [Program.elem, Try.underlying63]
  rw [run_slice_h W 63 _ _ _ ht' .i64 _ (by omega) (by omega), he, sizeP]
  have e0 : (fun x : Addr => x.add (0 * 3)) = id := by funext x; simp [Addr.add]
  simp [Result.andThen, sliced, e0]
theorem run_from (a : Option Addr) (n c t : Nat) (ht : t ≤ n) (W : World) : (Instr.slice 63 (.slice a n c) (some (.int .i64 (t : Int))) none none).run Try.prog W = .ok (.slice (if c = t then a else a.map (·.add (t * 3))) (n - t) (c - t)) W := by
  have ht' : Try.prog.underlying 63 = some (.slice (Try.prog.elem 63)) := by simp [Program.elem, Try.underlying63]
  have he : Try.prog.elem 63 = 56 := by simp [Program.elem, Try.underlying63]
  rw [run_slice_l W 63 _ _ _ ht' .i64 _ (by omega) (by omega), he, sizeP]
  simp [Result.andThen, sliced]
end Go.Proofs.Ytagfolckodpioaa.K2
namespace Go.Proofs.Ytagfolckodpioaa.K2
open Go.RowKit Go.Maps Go.Proofs.Ytagfolckodpioaa
set_option linter.all false
structure RN (B k : Nat) (room sent gone : Int) (l : List PkV) (row : Value) (W : World) : Prop where
  blk : W.heap[k]? = some (.cells #[.int .i64 room, row, .int .i64 sent, .int .i64 gone] 96 (0, 0))
  own : W.ownsRow B 56 3 row l.length (celC pkE l)
theorem RN.keep {B k : Nat} {room sent gone : Int} {l : List PkV} {row : Value} {W W' : World} (h : RN B k room sent gone l row W) (hb : Below W.heap.size W W') : RN B k room sent gone l row W' := ⟨blkK h.blk hb, own_keep h.own hb⟩
/-- The blocks that its calls may turn. -/
def RtF (k : Nat) (row : Value) (j : Nat) : Prop := j = k ∨ row.ownBlock = some j
/-- The row is where it was, or in memory that is new, or nowhere. -/
def NxQ (row row' : Value) (w : World) : Prop := ∀ j, row'.ownBlock = some j → row.ownBlock = some j ∨ w.heap.size ≤ j
theorem NxQ.mono {row row' : Value} {w W : World} (h : NxQ row row' W) (hs : w.heap.size ≤ W.heap.size) : NxQ row row' w := fun j e => (h j e).imp id (Nat.le_trans hs)
theorem NxR.q {row row' : Value} {w : World} (h : NxR row row' w) : NxQ row row' w := by
  intro j e
  rcases h with h | ⟨k, h, hk⟩
  · exact .inl (by rw [← h]; exact e)
  · rw [h] at e
    simp only [Option.some.injEq] at e
    exact .inr (by omega)
theorem NxQ.refl (row : Value) (w : World) : NxQ row row w := fun _ e => .inl e
/-- The row turns. -/
theorem RN.row {B k : Nat} {room sent gone : Int} {l l' : List PkV} {row row' : Value} {W W' : World} (h : RN B k room sent gone l row W) (hk : W'.heap[k]? = some (.cells #[.int .i64 room, row, .int .i64 sent, .int .i64 gone] 96 (0, 0))) (ho : W'.ownsRow B 56 3 row' l'.length (celC pkE l')) : RN B k room sent gone l' row' (W'.setCell ⟨k, 1, none⟩ row') :=
  ⟨heap_set hk 1 row', own_cell ho hk (by decide)⟩
theorem RN.sent {B k : Nat} {room sent gone : Int} {l : List PkV} {row : Value} {W : World} (h : RN B k room sent gone l row W) (s : Int) : RN B k room s gone l row (W.setCell ⟨k, 2, none⟩ (.int .i64 s)) := ⟨heap_set h.blk 2 _, own_cell h.own h.blk (by decide)⟩
theorem RN.gone {B k : Nat} {room sent gone : Int} {l : List PkV} {row : Value} {W : World} (h : RN B k room sent gone l row W) (s : Int) : RN B k room sent s l row (W.setCell ⟨k, 3, none⟩ (.int .i64 s)) := ⟨heap_set h.blk 3 _, own_cell h.own h.blk (by decide)⟩
set_option maxHeartbeats 1000000 in
theorem rNew_yes (r : Int) (w : World) (h : wiB r 1 3000 = true) :
    Calls Try.prog 18 #[.int .i64 r] w fun e w' => e = .returned (.tuple #[.pointer (some ⟨w.heap.size, 0, none⟩), .int .i64 0]) ∧ w' = w.alloc (.cells #[.int .i64 r, .slice none 0 0, .int .i64 0, .int .i64 0] 96) := by
  have N := refWithin_is r 1 3000
  rw [h] at N
  have HN := hideIt N
  clear N
  go_enter Try.func18, Try.ntmps18
  go_wp2_with fail
  refine (HN.out _).mono ?_
  rintro e w1 ⟨rfl, rfl⟩
  dsimp only
  go_wp2
  go_ret2
  exact ⟨rfl, rfl⟩
set_option maxHeartbeats 1000000 in
theorem rNew_no (r : Int) (w : World) (h : wiB r 1 3000 = false) :
    Calls Try.prog 18 #[.int .i64 r] w fun e w' => e = .returned (.tuple #[.pointer none, .int .i64 1]) ∧ w' = w := by
  have N := refWithin_is r 1 3000
  rw [h] at N
  have HN := hideIt N
  clear N
  go_enter Try.func18, Try.ntmps18
  go_wp2_with fail
  refine (HN.out _).mono ?_
  rintro e w1 ⟨rfl, rfl⟩
  dsimp only
  go_wp2
  go_ret2
  exact ⟨rfl, rfl⟩
set_option maxHeartbeats 1000000 in
theorem rLen_is (B k : Nat) (room sent gone : Int) (l : List PkV) (row : Value) (w : World) (h : RN B k room sent gone l row w) : Calls Try.prog 31 #[.pointer (some ⟨k, 0, none⟩)] w fun e w' => e = .returned (.int .i64 (l.length : Nat)) ∧ w' = w := by
  obtain ⟨a, c, rfl⟩ := own_len h.own
  obtain ⟨⟨c0, c1, c2, c3⟩, cf, cz⟩ := four5_at h.blk
  clear h
  go_enter Try.func31, Try.ntmps31
  go_wp2
  go_ret
  exact ⟨rfl, rfl⟩
set_option maxHeartbeats 1000000 in
theorem rCounts_is (B k : Nat) (room sent gone : Int) (l : List PkV) (row : Value) (w : World) (h : RN B k room sent gone l row w) : Calls Try.prog 27 #[.pointer (some ⟨k, 0, none⟩)] w fun e w' => e = .returned (.tuple #[.int .i64 sent, .int .i64 gone]) ∧ Below w.heap.size w w' := by
  obtain ⟨⟨c0, c1, c2, c3⟩, cf, cz⟩ := four5_at h.blk
  clear h
  go_enter Try.func27, Try.ntmps27
  go_wp2
  go_quiet (fail)
  go_wp2
  go_ret2
  exact ⟨rfl, below_drewN (Below.refl _ _) _⟩
theorem atomLoad_is (p off : Nat) (c : Int) (w : World) (hc : w.cell? ⟨p, off, none⟩ = some (.int .i64 c)) : Calls Try.prog 57 #[.pointer (some ⟨p, off, none⟩)] w fun e w' => e = .returned (.int .i64 c) ∧ w' = w := by
  have hl := run_call_load (P := Try.prog) Try.func81 (by kernel_rfl) (by kernel_rfl) (by kernel_rfl) .i64 (by kernel_rfl) hc
  go_enter Try.func57, Try.ntmps57
  go_wp2
  go_ret
  exact ⟨rfl, rfl⟩
set_option maxHeartbeats 4000000 in
set_option maxRecDepth 100000 in
theorem counts_is (B n mb : Nat) (room sent taken : Int) (l : List PkV) (row : Value) (c : Nat) (f : Pks) (w : World) (h : NA B n mb room sent taken l row c f w) : Calls Try.prog 26 #[.pointer (some ⟨n, 0, none⟩)] w fun e w' => e = .returned (.tuple #[.int .i64 sent, .int .i64 taken]) ∧ Below w.heap.size w w' := by
  obtain ⟨⟨c0, c1, c2, c3, c4⟩, cf, cz⟩ := five5_at h.blk
  have hlt : n < w.heap.size := (Array.getElem?_eq_some_iff.1 h.blk).1
  have H3 := hideIt (fun m => atomLoad_is n 3 sent (w.drewN m) (((below_drewN (Below.refl _ w) m).cell (p := ⟨n, 3, none⟩) hlt).trans c3))
  have H4 := hideIt (fun m => atomLoad_is n 4 taken (w.drewN m) (((below_drewN (Below.refl _ w) m).cell (p := ⟨n, 4, none⟩) hlt).trans c4))
  clear hlt
  clear h
  go_enter Try.func26, Try.ntmps26
  go_wp2
  go_quiet (first | (go_at_call 57; exact Calls.quiet_of_same (H3.out _)) | (go_at_call 57; exact Calls.quiet_of_same (H4.out _)))
  go_wp2
  go_ret2
  exact ⟨rfl, below_drewN (Below.refl _ _) _⟩
set_option maxHeartbeats 4000000 in
theorem rAll_is (B k : Nat) (room sent gone : Int) (l : List PkV) (row : Value) (w : World) (h : RN B k room sent gone l row w) (hl : l.length ≤ 3000) : Calls Try.prog 29 #[.pointer (some ⟨k, 0, none⟩)] w fun e w' => ∃ v', e = .returned v' ∧ w'.ownsRow w.heap.size 56 3 v' l.length (celC pkE l) ∧ Below w.heap.size w w' := by
  obtain ⟨a', c', w', hrun, how, hb⟩ := app0 (enc := pkE) (t := 63) pkE_len pkE_one Try.underlying63 info56 rfl (by omega) (by omega) w row l (own_sgot h.own (by omega))
  have HRUN := hideIt hrun
  have HR := hideIt (And.intro how hb)
  obtain ⟨⟨c0, c1, c2, c3⟩, cf, cz⟩ := four5_at h.blk
  obtain ⟨a, c, rfl⟩ := own_len h.own
  clear hrun how hb h
  go_enter Try.func29, Try.ntmps29
  go_wp2_with (at_builtin; refine Lib.wpList_append_run _ rfl _ _ _ _ rfl _ _ rfl rfl _ _ HRUN.out ?_)
  go_ret
  exact ⟨_, rfl, HR.out.1, HR.out.2⟩
end Go.Proofs.Ytagfolckodpioaa.K2
namespace Go.Proofs.Ytagfolckodpioaa.K2
open Go.RowKit Go.Maps Go.Proofs.Ytagfolckodpioaa
set_option linter.all false
set_option maxHeartbeats 8000000 in
set_option maxRecDepth 100000 in
theorem rSend_ok (B k : Nat) (room sent gone : Int) (l : List PkV) (row : Value) (p : PkV) (w : World) (h : RN B k room sent gone l row w) (hB : B ≤ w.heap.size) (hl : l.length ≤ 3000) (hs : 0 ≤ sent ∧ sent ≤ 1000000000) (h1 : wiB p.frm 1 7 = true) (h2 : wiB p.dst 1 7 = true) (h3 : p.text.size ≤ 70008) (h4 : (l.length : Int) < room) : Calls Try.prog 20 #[.pointer (some ⟨k, 0, none⟩), pkV p] w fun e w' => e = .returned (.int .i64 0) ∧ (∃ row', RN B k room (sent + 1) gone (l ++ [p]) row' w' ∧ NxQ row row' w) ∧ Out (RtF k row) w w' := by
  have hb1 := below1 w (.cells #[.int .i64 p.frm, .int .i64 p.dst, .string p.text] 56)
  have N1 := hideIt (h.keep hb1)
  have K1 := hideIt (heap_alloc_new w (.cells #[.int .i64 p.frm, .int .i64 p.dst, .string p.text] 56))
  have Z1 : Hid (B ≤ w.heap.size) := hB
  have B1 := hideIt hb1
  have I1 := hideIt (fun W => refWithin_is p.frm 1 7 W)
  have I2 := hideIt (fun W => refWithin_is p.dst 1 7 W)
  rw [h1] at I1
  rw [h2] at I2
  have hlen : ¬ (70008 : Int) < (p.text.size : Int) := by omega
  have HNE : Hid (row.ownBlock ≠ some w.heap.size) := fun e => by have := (h.own.lt _ e).2; omega
  have hnK : k < w.heap.size := (Array.getElem?_eq_some_iff.1 h.blk).1
  have hfd : decide (room ≤ (l.length : Int)) = false := decide_eq_false (by omega)
  have hws : IntKind.i64.wrap (sent + 1) = sent + 1 := by rw [IntKind.wrap_i64]; omega
  clear h hb1 hB h1 h2 h3 h4 hs
  unfold pkV at *
  obtain ⟨pf, pd, pt⟩ := p
  simp only at *
  obtain ⟨ra, rc, hrow⟩ := own_len N1.out.own
  have HRW := hideIt hrow
  go_enter Try.func20, Try.ntmps20
  go_upto_region 1 with fail
  generalize w.alloc (.cells #[.int .i64 pf, .int .i64 pd, .string pt] 56) = W1 at *
  obtain ⟨b0, b1, b2, bf, bz⟩ := three_at K1.out
  go_wp2_with fail
  refine (I1.out _).mono ?_
  rintro e w1 ⟨rfl, rfl⟩
  dsimp only
  go_wp2_with fail
  refine (I2.out _).mono ?_
  rintro e w2 ⟨rfl, rfl⟩
  dsimp only
  subst hrow
  go_upto_region 5 with fail
  obtain ⟨⟨c0, c1, c2, c3⟩, cf, cz⟩ := four5_at N1.out.blk
  have NQ := hideIt (fun m => N1.out.keep (below_drewN (Below.refl _ _) m))
  have KQ := hideIt (fun m => blkK K1.out (below_drewN (Below.refl _ _) m))
  have BQ := hideIt (fun m => below_drewN B1.out m)
  clear N1 K1 B1
  go_quiet (fail)
  go_upto_region 7 with fail
  clear c0 c1 c2 c3 cf cz b0 b1 b2 bf bz
  have N1 := hideIt (NQ.out nq)
  have K1 := hideIt (KQ.out nq)
  have B1 := hideIt (BQ.out nq)
  clear NQ KQ BQ I1 I2 HRW
  generalize w2.drewN nq = W1 at *
  generalize hKw : w.heap.size = K at *
  have HKW := hideIt hKw
  clear hKw
  have hb2 : Below W1.heap.size W1 (W1.alloc (.cells #[.int .i64 pf, .int .i64 pd, .string pt] 56)).drew := (below1 W1 _).drew
  have N2 := N1.out.keep hb2
  have hKs : K < W1.heap.size := (Array.getElem?_eq_some_iff.1 K1.out).1
  have hz1 := Nat.le_trans Z1.out (Nat.le_trans (Nat.le_of_lt hKs) hb2.size)
  obtain ⟨row', w5, hrun, how, hgr, hat⟩ := app1At (enc := pkE) (t := 63) pkE_len pkE_one Try.underlying63 info56 rfl (by omega) (W1.alloc (.cells #[.int .i64 pf, .int .i64 pd, .string pt] 56)).drew B (.slice ra l.length rc) l ⟨pf, pd, pt⟩ W1.heap.size 1 hz1 N2.own (heap_alloc_new W1 _) (by omega) (by unfold maxLen; omega)
  obtain ⟨a5, r5, rfl⟩ := own_len how
  have hk5 := box_type hgr N2.own N2.blk (by decide)
  have N5 := hideIt (N2.row hk5 how)
  have B5 : Hid (Out (RtF k (.slice ra l.length rc)) w (w5.setCell ⟨k, 1, none⟩ (.slice a5 (l ++ [(⟨pf, pd, pt⟩ : PkV)]).length r5))) := by
    refine (((Out.ofBelow (F := RtF k (.slice ra l.length rc)) (by rw [HKW.out]; exact B1.out)).trans (Out.ofBelow (F := RtF k (.slice ra l.length rc)) hb2) (fun _ _ h => h)).trans (Out.ofGrown (F := RtF k (.slice ra l.length rc)) hgr (fun j e => .inr e)) (fun _ _ h => h)).trans (Out.ofSet (F := RtF k (.slice ra l.length rc)) w5 ⟨k, 1, none⟩ _ (.inl rfl)) (fun _ _ h => h)
  have HNX : Hid (NxQ (.slice ra l.length rc) (.slice a5 (l ++ [(⟨pf, pd, pt⟩ : PkV)]).length r5) w) := by
    refine NxR.q ?_
    rcases hat with h | h
    · exact .inl h
    · exact .inr ⟨_, h, by have := hb2.size; have := HKW.out; omega⟩
  obtain ⟨⟨s0, s1, s2, s3⟩, sf, sz⟩ := four5_at hk5
  obtain ⟨⟨c0, c1, c2, c3⟩, cf, cz⟩ := four5_at N1.out.blk
  obtain ⟨b0, b1, b2, bf, bz⟩ := three_at K1.out
  have hnc : k ≠ W1.heap.size := by omega
  have hKc : K ≠ W1.heap.size := by omega
  have HRUN := hideIt hrun
  clear hrun how hgr N2 hb2 hk5 hat hz1
  generalize (l ++ [(⟨pf, pd, pt⟩ : PkV)]).length = ln at *
  go_cut [41] from 32 to 41 (fun _ wx => w5.setCell ⟨k, 1, none⟩ (.slice a5 ln r5) = wx)
  case first =>
    clear N1 K1 B1 Z1 N5 B5 HNX HNE
    go_region_law (refine step_app_runK rfl _ _ 63 63 rfl _ _ rfl rfl HRUN.out ?_)
    all_goals go_wp2_with fail
    all_goals go_meet
    all_goals rfl
  case rest =>
  subst hcut
  clear s0 s1 s2 s3 sf sz c0 c1 c2 c3 cf cz b0 b1 b2 bf bz hnc hKc HRUN N1 K1 B1 HNE
  generalize w5.setCell ⟨k, 1, none⟩ (.slice a5 ln r5) = W5 at *
  obtain ⟨⟨c0, c1, c2, c3⟩, cf, cz⟩ := four5_at N5.out.blk
  have N7 := hideIt (N5.out.sent (sent + 1))
  have B7 : Hid (Out (RtF k (.slice ra l.length rc)) w (W5.setCell ⟨k, 2, none⟩ (.int .i64 (sent + 1)))) := B5.out.trans (Out.ofSet (F := RtF k (.slice ra l.length rc)) W5 ⟨k, 2, none⟩ _ (.inl rfl)) (fun _ _ h => h)
  clear N5 B5
  go_wp2
  go_ret
  exact ⟨rfl, ⟨_, N7.out, HNX.out⟩, B7.out⟩
end Go.Proofs.Ytagfolckodpioaa.K2
namespace Go.Proofs.Ytagfolckodpioaa.K2
open Go.RowKit Go.Maps Go.Proofs.Ytagfolckodpioaa
set_option linter.all false
set_option maxHeartbeats 8000000 in
set_option maxRecDepth 100000 in
theorem rSend_no (B k : Nat) (room sent gone : Int) (l : List PkV) (row : Value) (p : PkV) (w : World) (h : RN B k room sent gone l row w) (hno : ¬ (wiB p.frm 1 7 = true ∧ wiB p.dst 1 7 = true ∧ p.text.size ≤ 70008 ∧ (l.length : Int) < room)) : Calls Try.prog 20 #[.pointer (some ⟨k, 0, none⟩), pkV p] w fun e w' => e = .returned (.int .i64 (sndE p)) ∧ Below w.heap.size w w' := by
  have hb1 := below1 w (.cells #[.int .i64 p.frm, .int .i64 p.dst, .string p.text] 56)
  have N1 := hideIt (h.keep hb1)
  have K1 := hideIt (heap_alloc_new w (.cells #[.int .i64 p.frm, .int .i64 p.dst, .string p.text] 56))
  have B1 := hideIt hb1
  have I1 := hideIt (fun W => refWithin_is p.frm 1 7 W)
  have I2 := hideIt (fun W => refWithin_is p.dst 1 7 W)
  have HE : Hid (sndE p = if (wiB p.frm 1 7 && wiB p.dst 1 7) = true then (if p.text.size ≤ 70008 then 50 else 2) else 1) := rfl
  clear h hb1
  unfold pkV at *
  obtain ⟨pf, pd, pt⟩ := p
  simp only at *
  obtain ⟨ra, rc, rfl⟩ := own_len N1.out.own
  generalize sndE ⟨pf, pd, pt⟩ = er at *
  cases h1 : wiB pf 1 7 with
  | false =>
    rw [h1] at I1
    have HR : Hid (er = 1) := by show _ = _; rw [HE.out, h1]; rfl
    clear HE hno h1 I2
    go_enter Try.func20, Try.ntmps20
    go_upto_region 1 with fail
    generalize w.alloc (.cells #[.int .i64 pf, .int .i64 pd, .string pt] 56) = W1 at *
    obtain ⟨b0, b1, b2, bf, bz⟩ := three_at K1.out
    go_wp2_with fail
    refine (I1.out _).mono ?_
    rintro e w1 ⟨rfl, rfl⟩
    dsimp only
    clear b0 b1 b2 bf bz
    go_wp2
    go_ret
    exact ⟨by rw [HR.out]; rfl, B1.out⟩
  | true =>
    rw [h1] at I1
    cases h2 : wiB pd 1 7 with
    | false =>
      rw [h2] at I2
      have HR : Hid (er = 1) := by show _ = _; rw [HE.out, h1, h2]; rfl
      clear HE hno h1 h2
      go_enter Try.func20, Try.ntmps20
      go_upto_region 1 with fail
      generalize w.alloc (.cells #[.int .i64 pf, .int .i64 pd, .string pt] 56) = W1 at *
      obtain ⟨b0, b1, b2, bf, bz⟩ := three_at K1.out
      go_wp2_with fail
      refine (I1.out _).mono ?_
      rintro e w1 ⟨rfl, rfl⟩
      dsimp only
      go_wp2_with fail
      refine (I2.out _).mono ?_
      rintro e w2 ⟨rfl, rfl⟩
      dsimp only
      clear b0 b1 b2 bf bz
      go_wp2
      go_ret
      exact ⟨by rw [HR.out]; rfl, B1.out⟩
    | true =>
      rw [h2] at I2
      by_cases h3 : pt.size ≤ 70008
      · have h4 : room ≤ (l.length : Int) := by
          by_cases c : (l.length : Int) < room
          · exact absurd ⟨h1, h2, h3, c⟩ hno
          · omega
        have HR : Hid (er = 50) := by show _ = _; rw [HE.out, h1, h2]; exact if_pos h3
        have hlen : ¬ (70008 : Int) < (pt.size : Int) := by omega
        clear HE hno h1 h2
        go_enter Try.func20, Try.ntmps20
        go_upto_region 1 with fail
        generalize w.alloc (.cells #[.int .i64 pf, .int .i64 pd, .string pt] 56) = W1 at *
        obtain ⟨b0, b1, b2, bf, bz⟩ := three_at K1.out
        go_wp2_with fail
        refine (I1.out _).mono ?_
        rintro e w1 ⟨rfl, rfl⟩
        dsimp only
        go_wp2_with fail
        refine (I2.out _).mono ?_
        rintro e w2 ⟨rfl, rfl⟩
        dsimp only
        have hfd : decide (room ≤ (l.length : Int)) = true := decide_eq_true h4
        go_upto_region 5 with fail
        obtain ⟨⟨c0, c1, c2, c3⟩, cf, cz⟩ := four5_at N1.out.blk
        have BQ := hideIt (fun m => below_drewN B1.out m)
        clear N1 K1 B1
        go_quiet (fail)
        have B3 := hideIt (BQ.out nq)
        clear b0 b1 b2 bf bz c0 c1 c2 c3 cf cz I1 I2
        go_wp2
        go_ret
        exact ⟨by rw [HR.out]; rfl, B3.out⟩
      · have HR : Hid (er = 2) := by show _ = _; rw [HE.out, h1, h2]; exact if_neg h3
        have hlen : (70008 : Int) < (pt.size : Int) := by omega
        clear HE hno h1 h2
        go_enter Try.func20, Try.ntmps20
        go_upto_region 1 with fail
        generalize w.alloc (.cells #[.int .i64 pf, .int .i64 pd, .string pt] 56) = W1 at *
        obtain ⟨b0, b1, b2, bf, bz⟩ := three_at K1.out
        go_wp2_with fail
        refine (I1.out _).mono ?_
        rintro e w1 ⟨rfl, rfl⟩
        dsimp only
        go_wp2_with fail
        refine (I2.out _).mono ?_
        rintro e w2 ⟨rfl, rfl⟩
        dsimp only
        go_wp2
        go_ret
        exact ⟨by rw [HR.out]; rfl, B1.out⟩
end Go.Proofs.Ytagfolckodpioaa.K2
namespace Go.Proofs.Ytagfolckodpioaa.K2
open Go.RowKit Go.Maps Go.Proofs.Ytagfolckodpioaa
set_option linter.all false
theorem outNew {F : Nat → Prop} {a b : World} {r j : Nat} (v : Value) (h : Out F a b) (hr : a.heap.size ≤ r) : Out F a (b.setCell ⟨r, j, none⟩ v) := h.trans (Out.ofSet (F := fun i => i = r) b ⟨r, j, none⟩ v rfl) (fun i hi e => by omega)
set_option maxHeartbeats 4000000 in
set_option maxRecDepth 100000 in
theorem rTake_no (B k : Nat) (room sent gone : Int) (l : List PkV) (row : Value) (i : Int) (w : World) (h : RN B k room sent gone l row w) (hno : wiB i 0 ((l.length : Int) - 1) = false) : Calls Try.prog 22 #[.pointer (some ⟨k, 0, none⟩), .int .i64 i] w fun e w' => e = .returned (.tuple #[.agg #[.int .i64 0, .int .i64 0, .string ⟨#[]⟩], .int .i64 51]) ∧ Below w.heap.size w w' := by
  have hb0 := below1 w (.cells #[.int .i64 0, .int .i64 0, .string ⟨#[]⟩] 56)
  have N0 := hideIt (h.keep hb0)
  have R0 := hideIt (heap_alloc_new w (.cells #[.int .i64 0, .int .i64 0, .string ⟨#[]⟩] 56))
  have B0 := hideIt hb0
  clear h hb0
  obtain ⟨ra, rc, rfl⟩ := own_len N0.out.own
  have hi : i < 0 ∨ (¬ i < 0 ∧ (l.length : Int) ≤ i) := by
    unfold wiB at hno
    simp only [Bool.and_eq_false_iff, decide_eq_false_iff_not] at hno
    omega
  clear hno
  rcases hi with hi | ⟨hi, hi2⟩
  all_goals
    go_enter Try.func22, Try.ntmps22
    go_upto_region 1 with fail
    generalize w.alloc (.cells #[.int .i64 0, .int .i64 0, .string ⟨#[]⟩] 56) = W0 at *
    obtain ⟨⟨c0, c1, c2, c3⟩, cf, cz⟩ := four5_at N0.out.blk
    obtain ⟨r0, r1, r2, rf, rz⟩ := three_at R0.out
    have R1 := hideIt (heap_set (heap_set (heap_set R0.out 0 (.int .i64 0)) 1 (.int .i64 0)) 2 (.string ⟨#[]⟩))
    have B1 : Hid (Below w.heap.size w (((W0.setCell ⟨w.heap.size, 0, none⟩ (.int .i64 0)).setCell ⟨w.heap.size, 1, none⟩ (.int .i64 0)).setCell ⟨w.heap.size, 2, none⟩ (.string ⟨#[]⟩))) := belowSet _ (belowSet _ (belowSet _ B0.out (Nat.le_refl _)) (Nat.le_refl _)) (Nat.le_refl _)
    clear N0 R0 B0
    go_wp2
    revert R1 B1
    generalize (World.setCell _ ⟨w.heap.size, 2, none⟩ _) = WF
    intro R1 B1
    exact bodyPost_ret (v := .tuple #[.agg #[.int .i64 0, .int .i64 0, .string ⟨#[]⟩], .int .i64 51]) (by simp [results, Try.results22, go_sem, cell_at R1.out]) rfl ⟨rfl, B1.out⟩
set_option maxHeartbeats 8000000 in
set_option maxRecDepth 100000 in
theorem rTake_ok (B k : Nat) (room sent gone : Int) (l : List PkV) (row : Value) (i : Nat) (p : PkV) (w : World) (h : RN B k room sent gone l row w) (hB : B ≤ w.heap.size) (hl : l.length ≤ 3000) (hs : 0 ≤ gone ∧ gone ≤ 1000000000) (hi : l[i]? = some p) : Calls Try.prog 22 #[.pointer (some ⟨k, 0, none⟩), .int .i64 i] w fun e w' => e = .returned (.tuple #[pkV p, .int .i64 0]) ∧ (∃ row', RN B k room sent (gone + 1) (l.take i ++ l.drop (i + 1)) row' w' ∧ NxQ row row' w) ∧ Out (RtF k row) w w' := by
  obtain ⟨hil, hpe⟩ := List.getElem?_eq_some_iff.1 hi
  have HPE := hideIt hpe
  clear hi hpe
  have hb0 := below1 w (.cells #[.int .i64 0, .int .i64 0, .string ⟨#[]⟩] 56)
  have N0 := hideIt (h.keep hb0)
  have R0 := hideIt (heap_alloc_new w (.cells #[.int .i64 0, .int .i64 0, .string ⟨#[]⟩] 56))
  have B0 := hideIt hb0
  have HKW : Hid (k < w.heap.size) := (Array.getElem?_eq_some_iff.1 h.blk).1
  have HB := hideIt hB
  obtain ⟨ra, rc, rfl⟩ := own_len h.own
  have hsz : w.heap.size < (w.alloc (.cells #[.int .i64 0, .int .i64 0, .string ⟨#[]⟩] 56)).heap.size := by simp
  clear h hb0 hB
  unfold pkV
  have hws : IntKind.i64.wrap (gone + 1) = gone + 1 := by rw [IntKind.wrap_i64]; omega
  clear hs
  go_enter Try.func22, Try.ntmps22
  go_upto_region 1 with fail
  generalize w.alloc (.cells #[.int .i64 0, .int .i64 0, .string ⟨#[]⟩] 56) = W0 at *
  obtain ⟨⟨c0, c1, c2, c3⟩, cf, cz⟩ := four5_at N0.out.blk
  have hG : SGot 3 32 pkE W0 (.slice ra l.length rc) l := own_sgot N0.out.own (by omega)
  have hcap := hG.cap
  have HG := hideIt hG
  obtain ⟨h8, a', c', e, hcap', hr⟩ := hG
  simp only [Value.slice.injEq, true_and] at e
  obtain ⟨rfl, rfl⟩ := e
  obtain ⟨g, off, rfl, hgl, hcc⟩ := hr (by omega)
  have q0 : W0.cell? ⟨g, off + i * 3, none⟩ = some (.int .i64 p.frm) := by
    rw [hcc (i * 3) (by omega), ← HPE.out]
    exact celC_get pkE_len l i hil 0 (by omega)
  have q1 : W0.cell? ⟨g, off + i * 3 + 1, none⟩ = some (.int .i64 p.dst) := by
    rw [show off + i * 3 + 1 = off + (i * 3 + 1) by omega, hcc (i * 3 + 1) (by omega), ← HPE.out]
    exact celC_get pkE_len l i hil 1 (by omega)
  have q2 : W0.cell? ⟨g, off + i * 3 + 2, none⟩ = some (.string p.text) := by
    rw [show off + i * 3 + 2 = off + (i * 3 + 2) by omega, hcc (i * 3 + 2) (by omega), ← HPE.out]
    exact celC_get pkE_len l i hil 2 (by omega)
  clear hcc hr h8 hcap'
  have hiI : (i : Int) < (l.length : Int) := by omega
  have hi0 : (0 : Int) ≤ (i : Int) := by omega
  have hin : ¬ (i : Int) < 0 := by omega
  have hid : decide ((l.length : Int) ≤ (i : Int)) = false := decide_eq_false (by omega)
  have hb2 := below1 W0 (.cells #[.int .i64 p.frm, .int .i64 p.dst, .string p.text] 56)
  have N2 := hideIt (N0.out.keep hb2)
  have R2 := hideIt (blkK R0.out hb2)
  have B2 := hideIt (below_via B0.out hb2)
  have G2 := hideIt (HG.out.keep hb2)
  have K2 := hideIt (heap_alloc_new W0 (.cells #[.int .i64 p.frm, .int .i64 p.dst, .string p.text] 56))
  have HS2 := hideIt hb2.size
  have HT2 : Hid (W0.heap.size < (W0.alloc (.cells #[.int .i64 p.frm, .int .i64 p.dst, .string p.text] 56)).heap.size) := by show _ < _; simp
  clear N0 R0 B0 HG hb2
  go_upto_region 5 with fail
  clear c0 c1 c2 c3 cf cz q0 q1 q2 hgl hid hin hiI
  generalize W0.alloc (.cells #[.int .i64 p.frm, .int .i64 p.dst, .string p.text] 56) = W2 at *
  obtain ⟨⟨c0, c1, c2, c3⟩, cf, cz⟩ := four5_at N2.out.blk
  have RU := fun W => run_upto (some ⟨g, off, none⟩) l.length rc i (by omega) W
  have hiC : (i : Int) ≤ (rc : Int) := by omega
  obtain ⟨a1, k1, w3, hrun, how, hb3⟩ := app0 (enc := pkE) (t := 63) pkE_len pkE_one Try.underlying63 info56 rfl (by omega) (by omega) W2 (.slice (some ⟨g, off, none⟩) i rc) (l.take i) (G2.out.upto pkE_len i (by omega))
  have HRUN := hideIt hrun
  have hlt : (l.take i).length = i := by rw [List.length_take]; omega
  rw [hlt] at HRUN
  have N3 := hideIt (N2.out.keep hb3)
  have R3 := hideIt (blkK R2.out hb3)
  have K3 := hideIt (blkK K2.out hb3)
  have B3 := hideIt (below_via B2.out hb3)
  have G3 := hideIt (G2.out.keep hb3)
  have O3 := hideIt how
  have HZ3 := hideIt hb3.size
  have HZ2 := hideIt B2.out.size
  rw [hlt] at O3
  clear hrun how hb3 N2 R2 K2 B2 G2 hlt
  go_upto_region 6 with (at_builtin; refine Lib.wpList_append_run _ rfl _ _ _ _ rfl _ _ rfl rfl _ _ HRUN.out ?_)
  clear HRUN RU c0 c1 c2 c3 cf cz hiC
  obtain ⟨⟨c0, c1, c2, c3⟩, cf, cz⟩ := four5_at N3.out.blk
  obtain ⟨i1, hi1⟩ : ∃ i1 : Nat, i1 = i + 1 := ⟨_, rfl⟩
  have hwi1 : IntKind.i64.wrap ((i : Int) + 1) = (i1 : Int) := by rw [IntKind.wrap_i64]; omega
  have hi1a : (0 : Int) ≤ (i1 : Int) := by omega
  have hi1b : (i1 : Int) ≤ (l.length : Int) := by omega
  have HI1 := hideIt hi1
  have RF := fun W => run_from (some ⟨g, off, none⟩) l.length rc i1 (by omega) W
  have GF := G3.out.from pkE_len i1 (by omega)
  generalize (if rc = i1 then (some ⟨g, off, none⟩ : Option Addr) else (some (⟨g, off, none⟩ : Addr)).map (·.add (i1 * 3))) = a2 at *
  have hlt : (l.take i).length = i := by rw [List.length_take]; omega
  obtain ⟨v5, w5, hrun, how, hgr⟩ := appG (enc := pkE) (t := 63) pkE_len pkE_one Try.underlying63 info56 rfl (by omega) (by omega) w3 W2.heap.size (.slice a1 i k1) (l.take i) (l.drop i1) (.slice a2 (l.length - i1) (rc - i1)) HZ3.out (by rw [hlt]; exact O3.out) GF (by rw [hlt, List.length_drop]; omega)
  obtain ⟨a5, r5, rfl⟩ := own_len how
  have HRUN := hideIt hrun
  have hkn : k < W2.heap.size := Nat.lt_of_lt_of_le HKW.out HZ2.out
  have hno : ∀ j, j < W2.heap.size → some j ≠ (Value.slice a1 i k1).ownBlock := fun j hj e => by
    have := (O3.out.lt j e.symm).1
    omega
  have hk5 : w5.heap[k]? = some (.cells #[.int .i64 room, .slice (some ⟨g, off, none⟩) l.length rc, .int .i64 sent, .int .i64 gone] 96 (0, 0)) := (hgr.block k (by have := HZ3.out; omega) (hno k hkn)).trans N3.out.blk
  have hRs : w.heap.size < W2.heap.size := Nat.lt_of_lt_of_le hsz HS2.out
  have hKs : W0.heap.size < W2.heap.size := HT2.out
  have hR5 := (hgr.block w.heap.size (by have := HZ3.out; omega) (hno _ hRs)).trans R3.out
  have hK5 := (hgr.block W0.heap.size (by have := HZ3.out; omega) (hno _ hKs)).trans K3.out
  have N5 := hideIt (N3.out.row hk5 (own_base how (Nat.le_trans HB.out HZ2.out)))
  have R5 := hideIt (setOther (b := k) (j := 1) (.slice a5 (l.take i ++ l.drop i1).length r5) hR5 (by have := HKW.out; omega))
  have K5 := hideIt (setOther (b := k) (j := 1) (.slice a5 (l.take i ++ l.drop i1).length r5) hK5 (by have := HKW.out; omega))
  have B5 : Hid (Out (RtF k (.slice (some ⟨g, off, none⟩) l.length rc)) w (w5.setCell ⟨k, 1, none⟩ (.slice a5 (l.take i ++ l.drop i1).length r5))) := by
    refine (Out.ofBelow (F := RtF k (.slice (some ⟨g, off, none⟩) l.length rc)) (below_out B3.out (Out.ofGrown (F := fun j => W2.heap.size ≤ j) hgr (fun j e => (O3.out.lt j e).1)) (fun j e => by have := HZ2.out; omega))).trans (Out.ofSet (F := RtF k (.slice (some ⟨g, off, none⟩) l.length rc)) w5 ⟨k, 1, none⟩ _ (.inl rfl)) (fun _ _ h => h)
  have HNB : Hid (∀ j, (Value.slice a5 (l.take i ++ l.drop i1).length r5).ownBlock = some j → W2.heap.size ≤ j) := fun j e => (how.lt j e).1
  have HNX : Hid (NxQ (.slice (some ⟨g, off, none⟩) l.length rc) (.slice a5 (l.take i ++ l.drop i1).length r5) w) := fun j e => .inr (by have := (how.lt j e).1; have := HZ2.out; omega)
  have hw5 := four5_at hk5
  clear hrun how hgr hk5 hR5 hK5 N3 R3 K3 B3 O3 G3 GF hno hlt
  clear hi1
  generalize hl2 : (l.take i ++ l.drop i1) = l2 at *
  have HL2 := hideIt hl2
  clear hl2
  obtain ⟨⟨s0, s1, s2, s3⟩, sf, sz⟩ := hw5
  go_upto_region 7 with (at_builtin; refine Lib.wpList_append_run _ rfl _ _ _ _ rfl _ _ rfl rfl _ _ HRUN.out ?_)
  clear HRUN RF c0 c1 c2 c3 cf cz s0 s1 s2 s3 sf sz hwi1
  generalize w5.setCell ⟨k, 1, none⟩ (.slice a5 l2.length r5) = W5 at *
  obtain ⟨⟨c0, c1, c2, c3⟩, cf, cz⟩ := four5_at N5.out.blk
  have N7 := hideIt (N5.out.gone (gone + 1))
  have R7 := hideIt (setOther (b := k) (j := 3) (.int .i64 (gone + 1)) R5.out (by have := HKW.out; omega))
  have K7 := hideIt (setOther (b := k) (j := 3) (.int .i64 (gone + 1)) K5.out (by have := HKW.out; omega))
  have B7 : Hid (Out (RtF k (.slice (some ⟨g, off, none⟩) l.length rc)) w (W5.setCell ⟨k, 3, none⟩ (.int .i64 (gone + 1)))) := B5.out.trans (Out.ofSet (F := RtF k (.slice (some ⟨g, off, none⟩) l.length rc)) W5 ⟨k, 3, none⟩ _ (.inl rfl)) (fun _ _ h => h)
  clear N5 R5 K5 B5
  go_upto_region 8 with fail
  clear c0 c1 c2 c3 cf cz hws
  generalize W5.setCell ⟨k, 3, none⟩ (.int .i64 (gone + 1)) = W7 at *
  obtain ⟨r0, r1, r2, rf, rz⟩ := three_at R7.out
  obtain ⟨b0, b1, b2, bf, bz⟩ := three_at K7.out
  have hRk : k ≠ w.heap.size := by have := HKW.out; omega
  have hRn : (Value.slice a5 l2.length r5).ownBlock ≠ some w.heap.size := fun e => by have := HNB.out _ e; omega
  have N9 : Hid (RN B k room sent (gone + 1) l2 (.slice a5 l2.length r5) (((W7.setCell ⟨w.heap.size, 0, none⟩ (.int .i64 p.frm)).setCell ⟨w.heap.size, 1, none⟩ (.int .i64 p.dst)).setCell ⟨w.heap.size, 2, none⟩ (.string p.text))) := ⟨setOther _ (setOther _ (setOther _ N7.out.blk hRk) hRk) hRk, own_ne (own_ne (own_ne N7.out.own hRn) hRn) hRn⟩
  have R9 := hideIt (heap_set (heap_set (heap_set R7.out 0 (.int .i64 p.frm)) 1 (.int .i64 p.dst)) 2 (.string p.text))
  have B9 : Hid (Out (RtF k (.slice (some ⟨g, off, none⟩) l.length rc)) w (((W7.setCell ⟨w.heap.size, 0, none⟩ (.int .i64 p.frm)).setCell ⟨w.heap.size, 1, none⟩ (.int .i64 p.dst)).setCell ⟨w.heap.size, 2, none⟩ (.string p.text))) := outNew _ (outNew _ (outNew _ B7.out (Nat.le_refl _)) (Nat.le_refl _)) (Nat.le_refl _)
  clear N7 R7 B7 K7
  rw [← HL2.out, HI1.out] at N9 HNX
  go_wp2
  revert R9 B9 N9
  generalize (World.setCell _ ⟨w.heap.size, 2, none⟩ _) = WF
  intro N9 R9 B9
  exact bodyPost_ret (v := .tuple #[.agg #[.int .i64 p.frm, .int .i64 p.dst, .string p.text], .int .i64 0]) (by simp [results, Try.results22, go_sem, cell_at R9.out]) rfl ⟨rfl, ⟨_, N9.out, HNX.out⟩, B9.out⟩
end Go.Proofs.Ytagfolckodpioaa.K2
namespace Go.Proofs.Ytagfolckodpioaa.K2
open Go.RowKit Go.Maps Go.Proofs.Ytagfolckodpioaa
set_option linter.all false
set_option maxHeartbeats 8000000 in
set_option maxRecDepth 100000 in
theorem rDouble_no (B k : Nat) (room sent gone : Int) (l : List PkV) (row : Value) (i : Int) (w : World) (h : RN B k room sent gone l row w) (hl : l.length ≤ 3000) (hno : ¬ (wiB i 0 ((l.length : Int) - 1) = true ∧ (l.length : Int) < room)) : Calls Try.prog 24 #[.pointer (some ⟨k, 0, none⟩), .int .i64 i] w fun e w' => e = .returned (.int .i64 (if wiB i 0 ((l.length : Int) - 1) = true then 50 else 51)) ∧ Below w.heap.size w w' := by
  obtain ⟨ra, rc, rfl⟩ := own_len h.own
  obtain ⟨⟨c0, c1, c2, c3⟩, cf, cz⟩ := four5_at h.blk
  clear h
  have hB0 := hideIt (Below.refl w.heap.size w)
  have BQ := hideIt (fun m => below_drewN (Below.refl w.heap.size w) m)
  by_cases hw : wiB i 0 ((l.length : Int) - 1) = true
  · rw [if_pos hw]
    have hfd : decide (room ≤ (l.length : Int)) = true := decide_eq_true (by
      by_cases c : (l.length : Int) < room
      · exact absurd ⟨hw, c⟩ hno
      · omega)
    have hi : 0 ≤ i ∧ i ≤ (l.length : Int) - 1 := by unfold wiB at hw; simpa using hw
    have hin : ¬ i < 0 := by omega
    have hid : decide ((l.length : Int) ≤ i) = false := decide_eq_false (by omega)
    clear hw hno hi
    go_enter Try.func24, Try.ntmps24
    go_upto_region 3 with fail
    go_quiet (fail)
    have B3 := hideIt (BQ.out nq)
    clear c0 c1 c2 c3 cf cz
    go_wp2
    go_ret
    exact ⟨rfl, B3.out⟩
  · rw [if_neg hw]
    have hi : i < 0 ∨ (¬ i < 0 ∧ (l.length : Int) ≤ i) := by
      unfold wiB at hw
      simp only [Bool.and_eq_true, decide_eq_true_eq, not_and] at hw
      omega
    clear hw hno
    rcases hi with hi | ⟨hi, hi2⟩
    · go_enter Try.func24, Try.ntmps24
      go_wp2
      go_ret
      exact ⟨rfl, hB0.out⟩
    · go_enter Try.func24, Try.ntmps24
      go_wp2
      go_ret
      exact ⟨rfl, hB0.out⟩
set_option maxHeartbeats 8000000 in
set_option maxRecDepth 100000 in
theorem rDouble_ok (B k : Nat) (room sent gone : Int) (l : List PkV) (row : Value) (i : Nat) (p : PkV) (w : World) (h : RN B k room sent gone l row w) (hB : B ≤ w.heap.size) (hl : l.length ≤ 3000) (hi : l[i]? = some p) (h4 : (l.length : Int) < room) : Calls Try.prog 24 #[.pointer (some ⟨k, 0, none⟩), .int .i64 i] w fun e w' => e = .returned (.int .i64 0) ∧ (∃ row', RN B k room sent gone (l ++ [p]) row' w' ∧ NxQ row row' w) ∧ Out (RtF k row) w w' := by
  obtain ⟨hil, hpe⟩ := List.getElem?_eq_some_iff.1 hi
  have HPE := hideIt hpe
  clear hi hpe
  obtain ⟨ra, rc, rfl⟩ := own_len h.own
  obtain ⟨⟨c0, c1, c2, c3⟩, cf, cz⟩ := four5_at h.blk
  have NQ := hideIt (fun m => h.keep (below_drewN (Below.refl _ _) m))
  have BQ := hideIt (fun m => below_drewN (Below.refl w.heap.size w) m)
  have HB := hideIt hB
  have hkW : k < w.heap.size := (Array.getElem?_eq_some_iff.1 h.blk).1
  clear h hB
  have hfd : decide (room ≤ (l.length : Int)) = false := decide_eq_false (by omega)
  have hin : ¬ (i : Int) < 0 := by omega
  have hid : decide (l.length ≤ i) = false := decide_eq_false (by omega)
  clear h4
  go_enter Try.func24, Try.ntmps24
  go_upto_region 3 with fail
  go_quiet (fail)
  go_upto_region 5 with fail
  clear c0 c1 c2 c3 cf cz
  have N1 := hideIt (NQ.out nq)
  have B1 := hideIt (BQ.out nq)
  clear NQ BQ
  generalize w.drewN nq = W1 at *
  have hsW := B1.out.size
  have hb2 : Below W1.heap.size W1 (W1.alloc (.cells #[.int .i64 p.frm, .int .i64 p.dst, .string p.text] 56)).drew := (below1 W1 _).drew
  have N2 := N1.out.keep hb2
  have hz1 := Nat.le_trans HB.out (Nat.le_trans hsW hb2.size)
  obtain ⟨row', w5, hrun, how, hgr, hat⟩ := app1At (enc := pkE) (t := 63) pkE_len pkE_one Try.underlying63 info56 rfl (by omega) (W1.alloc (.cells #[.int .i64 p.frm, .int .i64 p.dst, .string p.text] 56)).drew B (.slice ra l.length rc) l p W1.heap.size 1 hz1 N2.own (heap_alloc_new W1 _) (by omega) (by unfold maxLen; omega)
  obtain ⟨a5, r5, rfl⟩ := own_len how
  have hk5 := box_type hgr N2.own N2.blk (by decide)
  have N5 := hideIt (N2.row hk5 how)
  have B5 : Hid (Out (RtF k (.slice ra l.length rc)) w (w5.setCell ⟨k, 1, none⟩ (.slice a5 (l ++ [p]).length r5))) := by
    refine (((Out.ofBelow (F := RtF k (.slice ra l.length rc)) B1.out).trans (Out.ofBelow (F := RtF k (.slice ra l.length rc)) hb2) (fun _ _ h => h)).trans (Out.ofGrown (F := RtF k (.slice ra l.length rc)) hgr (fun j e => .inr e)) (fun _ _ h => h)).trans (Out.ofSet (F := RtF k (.slice ra l.length rc)) w5 ⟨k, 1, none⟩ _ (.inl rfl)) (fun _ _ h => h)
  have HNX : Hid (NxQ (.slice ra l.length rc) (.slice a5 (l ++ [p]).length r5) w) := by
    refine NxR.q ?_
    rcases hat with h | h
    · exact .inl h
    · exact .inr ⟨_, h, by have := hb2.size; omega⟩
  obtain ⟨⟨s0, s1, s2, s3⟩, sf, sz⟩ := four5_at hk5
  obtain ⟨⟨c0, c1, c2, c3⟩, cf, cz⟩ := four5_at N1.out.blk
  have hG : SGot 3 32 pkE W1 (.slice ra l.length rc) l := own_sgot N1.out.own (by omega)
  obtain ⟨h8, a', c', e, hcap', hr⟩ := hG
  simp only [Value.slice.injEq, true_and] at e
  obtain ⟨rfl, rfl⟩ := e
  obtain ⟨g, off, rfl, hgl, hcc⟩ := hr (by omega)
  have q0 : W1.cell? ⟨g, off + i * 3, none⟩ = some (.int .i64 p.frm) := by
    rw [hcc (i * 3) (by omega), ← HPE.out]
    exact celC_get pkE_len l i hil 0 (by omega)
  have q1 : W1.cell? ⟨g, off + i * 3 + 1, none⟩ = some (.int .i64 p.dst) := by
    rw [show off + i * 3 + 1 = off + (i * 3 + 1) by omega, hcc (i * 3 + 1) (by omega), ← HPE.out]
    exact celC_get pkE_len l i hil 1 (by omega)
  have q2 : W1.cell? ⟨g, off + i * 3 + 2, none⟩ = some (.string p.text) := by
    rw [show off + i * 3 + 2 = off + (i * 3 + 2) by omega, hcc (i * 3 + 2) (by omega), ← HPE.out]
    exact celC_get pkE_len l i hil 2 (by omega)
  have hnc : k ≠ W1.heap.size := by omega
  have hgc : g ≠ W1.heap.size := by omega
  have hiI : (i : Int) < (l.length : Int) := by omega
  have hi0 : (0 : Int) ≤ (i : Int) := by omega
  have HRUN := hideIt hrun
  clear hrun how hgr N2 hb2 hk5 hat hz1 hcc hr h8 hcap'
  generalize (l ++ [p]).length = ln at *
  go_cut [41] from 26 to 41 (fun _ wx => w5.setCell ⟨k, 1, none⟩ (.slice a5 ln r5) = wx)
  case first =>
    clear N1 B1 N5 B5 HNX HB
    go_region_law (refine step_app_runK rfl _ _ 63 63 rfl _ _ rfl rfl HRUN.out ?_)
    all_goals go_wp2_with fail
    all_goals go_meet
    all_goals rfl
  case rest =>
  subst hcut
  clear s0 s1 s2 s3 sf sz c0 c1 c2 c3 cf cz hnc HRUN N1 B1 q0 q1 q2 hgc
  generalize w5.setCell ⟨k, 1, none⟩ (.slice a5 ln r5) = W5 at *
  go_wp2
  go_ret
  exact ⟨rfl, ⟨_, N5.out, HNX.out⟩, B5.out⟩
end Go.Proofs.Ytagfolckodpioaa.K2
namespace Go.Proofs.Ytagfolckodpioaa.K2
open Go.RowKit Go.Maps Go.Proofs.Ytagfolckodpioaa
set_option linter.all false
theorem neq56 (a1 a2 : Int) (a3 : ByteArray) (w : World) : (binOp .neq 56 (.agg #[.int .i64 a1, .int .i64 a2, .string a3]) (.agg #[.int .i64 a1, .int .i64 a2, .string a3])).run Try.prog w = .ok (.bool false) w := by
  simp [go_sem]
set_option maxHeartbeats 8000000 in
set_option maxRecDepth 100000 in
theorem sameL_is (v u : Value) (l : List PkV) (w : World) (h : SGot 3 32 pkE w v l) (h' : SGot 3 32 pkE w u l) (hl : l.length ≤ 3000) : Calls Try.prog 28 #[v, u] w fun e w' => e = .returned (.bool true) ∧ Below w.heap.size w w' := by
  have HG := hideIt h
  have HU := hideIt h'
  obtain ⟨va, vc, rfl⟩ := h.slice
  obtain ⟨ua, uc, rfl⟩ := h'.slice
  clear h h'
  have HQ := hideIt (fun (y : PkV) W => neq56 y.frm y.dst y.text W)
  go_enter Try.func28, Try.ntmps28
  go_upto_region 4 with fail
  go_loopw [5] (fun i wr => ∃ t : Nat, i = .int .i64 t ∧ t ≤ l.length ∧ Hid (Below w.heap.size w wr)) (fun i _ => l.length - (RowKit.intOf i).toNat)
  case atStart => exact ⟨0, rfl, Nat.zero_le _, hideIt (Below.refl _ _)⟩
  case round =>
    obtain ⟨t, rfl, ht, HR⟩ := hrel
    by_cases hlt : t < l.length
    · have hltI : (t : Int) < (l.length : Int) := by omega
      have ht0 : (0 : Int) ≤ (t : Int) := by omega
      have hw : IntKind.i64.wrap ((t : Int) + 1) = ((t + 1 : Nat) : Int) := by rw [IntKind.wrap_i64]; omega
      obtain ⟨-, a', c', e, hcap, hr⟩ := HG.out
      simp only [Value.slice.injEq, true_and] at e
      obtain ⟨rfl, rfl⟩ := e
      obtain ⟨g, off, hva, hgl, hcc⟩ := hr (by omega)
      have hgr : g < wr.heap.size := Nat.lt_of_lt_of_le hgl HR.out.size
      have q0 : wr.cell? ⟨g, off + t * 3, none⟩ = some (.int .i64 (l[t]).frm) := by
        rw [HR.out.cell (p := ⟨g, off + t * 3, none⟩) hgl, hcc (t * 3) (by omega)]
        exact celC_get pkE_len l t hlt 0 (by omega)
      have q1 : wr.cell? ⟨g, off + t * 3 + 1, none⟩ = some (.int .i64 (l[t]).dst) := by
        rw [HR.out.cell (p := ⟨g, off + t * 3 + 1, none⟩) hgl, show off + t * 3 + 1 = off + (t * 3 + 1) by omega, hcc (t * 3 + 1) (by omega)]
        exact celC_get pkE_len l t hlt 1 (by omega)
      have q2 : wr.cell? ⟨g, off + t * 3 + 2, none⟩ = some (.string (l[t]).text) := by
        rw [HR.out.cell (p := ⟨g, off + t * 3 + 2, none⟩) hgl, show off + t * 3 + 2 = off + (t * 3 + 2) by omega, hcc (t * 3 + 2) (by omega)]
        exact celC_get pkE_len l t hlt 2 (by omega)
      clear hcc hr hcap
      obtain ⟨-, a', c', e, hcap, hr⟩ := HU.out
      simp only [Value.slice.injEq, true_and] at e
      obtain ⟨rfl, rfl⟩ := e
      obtain ⟨g2, off2, hua, hgl2, hcc⟩ := hr (by omega)
      have hgr2 : g2 < wr.heap.size := Nat.lt_of_lt_of_le hgl2 HR.out.size
      have p0 : wr.cell? ⟨g2, off2 + t * 3, none⟩ = some (.int .i64 (l[t]).frm) := by
        rw [HR.out.cell (p := ⟨g2, off2 + t * 3, none⟩) hgl2, hcc (t * 3) (by omega)]
        exact celC_get pkE_len l t hlt 0 (by omega)
      have p1 : wr.cell? ⟨g2, off2 + t * 3 + 1, none⟩ = some (.int .i64 (l[t]).dst) := by
        rw [HR.out.cell (p := ⟨g2, off2 + t * 3 + 1, none⟩) hgl2, show off2 + t * 3 + 1 = off2 + (t * 3 + 1) by omega, hcc (t * 3 + 1) (by omega)]
        exact celC_get pkE_len l t hlt 1 (by omega)
      have p2 : wr.cell? ⟨g2, off2 + t * 3 + 2, none⟩ = some (.string (l[t]).text) := by
        rw [HR.out.cell (p := ⟨g2, off2 + t * 3 + 2, none⟩) hgl2, show off2 + t * 3 + 2 = off2 + (t * 3 + 2) by omega, hcc (t * 3 + 2) (by omega)]
        exact celC_get pkE_len l t hlt 2 (by omega)
      have hqq := HQ.out l[t]
      clear hcc hr HQ hcap
      generalize l[t] = y at *
      obtain ⟨yf, yd, yt⟩ := y
      dsimp only at q0 q1 q2 p0 p1 p2 hqq
      subst hva hua
      go_upto_region 6 with fail
      go_quiet (fail)
      go_wp2
      go_roundw
      case rel => exact ⟨t + 1, by go_num, by omega, hideIt (below_drewN HR.out _)⟩
      case measure => simp [RowKit.intOf]; omega
    · have hltI : ¬ (t : Int) < (l.length : Int) := by omega
      have B2 := hideIt HR.out
      clear HG HU HR HQ
      go_wp2
      go_ret
      exact ⟨rfl, B2.out⟩
end Go.Proofs.Ytagfolckodpioaa.K2
namespace Go.Proofs.Ytagfolckodpioaa.K2
open Go.RowKit Go.Maps Go.Proofs.Ytagfolckodpioaa
set_option linter.all false
/-- The map tells how often each packet is in the row. -/
structure FI (l : List PkV) (f : Pks) : Prop where
  pgc : ∀ x, pg f x = (cntP x l : Nat)
  ok : ∀ p ∈ l, PkOk p
  pos : ∀ x p, f x = some p → 0 < p
theorem FI.start : FI [] f0 := ⟨fun _ => rfl, fun p hp => by simp at hp, fun x p h => by cases h⟩
theorem FI.pgb {l : List PkV} {f : Pks} (h : FI l f) (hl : l.length ≤ 3000) (x : PkV) : 0 ≤ pg f x ∧ pg f x ≤ 1000000 := by
  have h1 := h.pgc x
  have h2 := cnt_le x l
  omega
theorem FI.add {l : List PkV} {f : Pks} (h : FI l f) {p : PkV} (hp : PkOk p) : FI (l ++ [p]) (updP f p (pg f p + 1)) := by
  refine ⟨fun x => ?_, fun q hq => ?_, fun x q hq => ?_⟩
  · have := h.pgc x
    rw [pg_add, cnt_app, this]
    push_cast
    rfl
  · rw [List.mem_append, List.mem_singleton] at hq
    rcases hq with hq | rfl
    · exact h.ok q hq
    · exact hp
  · unfold updP at hq
    by_cases e : eqP x p = true
    · rw [if_pos e] at hq
      have h1 := h.pgc p
      simp only [Option.some.injEq] at hq
      omega
    · rw [if_neg e] at hq
      exact h.pos x q hq
theorem cnt_pos {x : PkV} {l : List PkV} : 0 < cntP x l ↔ x ∈ l := by
  unfold cntP
  rw [List.countP_pos_iff]
  constructor
  · rintro ⟨y, hy, e⟩
    rw [eqT_eqP] at e
    rw [← eqP_eq e]
    exact hy
  · exact fun h => ⟨x, h, eqT_self x⟩
theorem FI.take {l : List PkV} {f : Pks} (h : FI l f) {p : PkV} {i : Nat} (hi : l[i]? = some p) : FI (l.take i ++ l.drop (i + 1)) (tkP f p) := by
  have hp : 0 < cntP p l := cnt_pos.2 (List.mem_of_getElem? hi)
  refine ⟨fun x => ?_, fun q hq => ?_, fun x q hq => ?_⟩
  · have h1 := h.pgc x
    have h2 := cnt_del (x := x) hi
    rw [pg_tk, h1]
    omega
  · rw [List.mem_append] at hq
    rcases hq with hq | hq
    · exact h.ok q (List.mem_of_mem_take hq)
    · exact h.ok q (List.mem_of_mem_drop hq)
  · unfold tkP at hq
    have h1 := h.pgc p
    by_cases e : pg f p - 1 = 0
    · rw [if_pos e] at hq
      unfold delP at hq
      by_cases e2 : eqP x p = true
      · rw [if_pos e2] at hq
        cases hq
      · rw [if_neg e2] at hq
        unfold updP at hq
        rw [if_neg e2] at hq
        exact h.pos x q hq
    · rw [if_neg e] at hq
      unfold updP at hq
      by_cases e2 : eqP x p = true
      · rw [if_pos e2] at hq
        simp only [Option.some.injEq] at hq
        omega
      · rw [if_neg e2] at hq
        exact h.pos x q hq
theorem FI.mem {l : List PkV} {f : Pks} (h : FI l f) {x : PkV} : (∃ p, f x = some p) ↔ x ∈ l := by
  have h1 := h.pgc x
  constructor
  · rintro ⟨p, hp⟩
    have h2 := h.pos x p hp
    have h3 : pg f x = p := by unfold pg; rw [hp]; rfl
    exact cnt_pos.1 (by omega)
  · intro hx
    have h2 := cnt_pos.2 hx
    cases hf : f x with
    | none =>
      have h3 : pg f x = 0 := by unfold pg; rw [hf]; rfl
      omega
    | some p => exact ⟨p, rfl⟩
theorem once (l : List PkV) : ∃ ks : List PkV, (∀ x, x ∈ ks ↔ x ∈ l) ∧ ks.Nodup ∧ ks.length ≤ l.length := by
  induction l with
  | nil => exact ⟨[], fun x => Iff.rfl, List.nodup_nil, Nat.le_refl _⟩
  | cons a l ih =>
    obtain ⟨ks, h1, h2, h3⟩ := ih
    rcases Classical.em (a ∈ ks) with ha | ha
    · refine ⟨ks, fun x => ?_, h2, by simp; omega⟩
      rw [List.mem_cons, h1]
      constructor
      · exact .inr
      · rintro (rfl | h)
        · exact (h1 x).1 ha
        · exact h
    · refine ⟨a :: ks, fun x => ?_, List.nodup_cons.2 ⟨ha, h2⟩, by simp; omega⟩
      rw [List.mem_cons, List.mem_cons, h1]
theorem sum_two (ks : List PkV) (F G : PkV → Int) : (ks.map (fun p => F p + G p)).sum = (ks.map F).sum + (ks.map G).sum := by
  induction ks with
  | nil => rfl
  | cons a ks ih =>
    simp only [List.map_cons, List.sum_cons, ih]
    omega
theorem sum_none (ks : List PkV) (a : PkV) (h : a ∉ ks) : (ks.map (fun p => (ind a p : Int))).sum = 0 := by
  induction ks with
  | nil => rfl
  | cons b ks ih =>
    rw [List.mem_cons, not_or] at h
    simp only [List.map_cons, List.sum_cons, ih h.2]
    have : ind a b = 0 := by
      unfold ind
      rw [if_neg]
      intro e
      rw [eqT_eqP] at e
      exact h.1 (eqP_eq e)
    rw [this]
    rfl
theorem sum_ind (ks : List PkV) (hn : ks.Nodup) (a : PkV) (h : a ∈ ks) : (ks.map (fun p => (ind a p : Int))).sum = 1 := by
  induction ks with
  | nil => simp at h
  | cons b ks ih =>
    rw [List.nodup_cons] at hn
    simp only [List.map_cons, List.sum_cons]
    rcases Classical.em (a = b) with e | e
    · subst e
      rw [sum_none ks a hn.1]
      unfold ind
      rw [if_pos (eqT_self a)]
      rfl
    · have ha : a ∈ ks := by
        rw [List.mem_cons] at h
        exact h.resolve_left e
      rw [ih hn.2 ha]
      have : ind a b = 0 := by
        unfold ind
        rw [if_neg]
        intro e2
        rw [eqT_eqP] at e2
        exact e (eqP_eq e2)
      rw [this]
      rfl
theorem sum_zero (ks : List PkV) : (ks.map (fun p => (cntP p [] : Int))).sum = 0 := by
  induction ks with
  | nil => rfl
  | cons b ks ih =>
    rw [List.map_cons, List.sum_cons, ih]
    rfl
theorem sum_cnt (ks : List PkV) (hn : ks.Nodup) : ∀ l : List PkV, (∀ x ∈ l, x ∈ ks) → (ks.map (fun p => (cntP p l : Int))).sum = l.length
  | [], _ => sum_zero ks
  | a :: l, h => by
    have ih := sum_cnt ks hn l (fun x hx => h x (List.mem_cons_of_mem _ hx))
    have e : (fun p => (cntP p (a :: l) : Int)) = fun p => (cntP p l : Int) + (ind a p : Int) := by
      funext p
      unfold cntP ind
      rw [List.countP_cons]
      push_cast
      rfl
    rw [e, sum_two, ih, sum_ind ks hn a (h a (List.mem_cons_self ..))]
    simp
theorem FI.sum {l : List PkV} {f : Pks} (h : FI l f) : ∃ ks : List PkV, (ks.map pkK).Nodup ∧ (∀ x p, PkOk x → f x = some p → x ∈ ks) ∧ ks.length ≤ l.length ∧ (∀ x ∈ ks, PkOk x ∧ ∃ p, f x = some p) ∧ sumK f (fun _ => true) ks = l.length := by
  obtain ⟨ks, h1, h2, h3⟩ := once l
  have hok : ∀ x ∈ ks, PkOk x := fun x hx => h.ok x ((h1 x).1 hx)
  refine ⟨ks, ?_, fun x p _ hp => (h1 x).2 (h.mem.1 ⟨p, hp⟩), h3, fun x hx => ⟨hok x hx, h.mem.2 ((h1 x).1 hx)⟩, ?_⟩
  · rw [List.Nodup, List.pairwise_map]
    refine List.Pairwise.imp_of_mem (fun {a b} ha hb hab e => hab (pk_inj (hok a ha) (hok b hb) e)) h2
  · rw [← sum_cnt ks h2 l (fun x hx => (h1 x).2 hx)]
    unfold sumK
    congr 1
    apply List.map_congr_left
    intro p _
    rw [if_pos rfl, h.pgc]
theorem pk_ok7 {p : PkV} (h1 : wiB p.frm 1 7 = true) (h2 : wiB p.dst 1 7 = true) (h3 : p.text.size ≤ 70008) : PkOk p := by
  have hw1 : 1 ≤ p.frm ∧ p.frm ≤ 7 := by unfold wiB at h1; simpa using h1
  have hw2 : 1 ≤ p.dst ∧ p.dst ≤ 7 := by unfold wiB at h2; simpa using h2
  have e1 : IntKind.i64.min = -9223372036854775808 := by decide
  have e2 : IntKind.i64.max = 9223372036854775807 := by decide
  exact ⟨by simp [Lit.wf, e1, e2]; omega, by simp [Lit.wf, e1, e2]; omega, by unfold maxLen; omega⟩
end Go.Proofs.Ytagfolckodpioaa.K2
namespace Go.Proofs.Ytagfolckodpioaa.K2
open Go.RowKit Go.Maps Go.Proofs.Ytagfolckodpioaa
set_option linter.all false
def sndB (room : Int) (l : List PkV) (p : PkV) : Bool := wiB p.frm 1 7 && (wiB p.dst 1 7 && (decide (p.text.size ≤ 70008) && decide ((l.length : Int) < room)))
theorem sndB_iff {room : Int} {l : List PkV} {p : PkV} : sndB room l p = true ↔ (wiB p.frm 1 7 = true ∧ wiB p.dst 1 7 = true ∧ p.text.size ≤ 70008 ∧ (l.length : Int) < room) := by
  unfold sndB
  simp only [Bool.and_eq_true, decide_eq_true_eq]
def takB (l : List PkV) (i : Int) : Bool := wiB i 0 ((l.length : Int) - 1)
def dblB (room : Int) (l : List PkV) (i : Int) : Bool := takB l i && decide ((l.length : Int) < room)
def zP : PkV := ⟨0, 0, ⟨#[]⟩⟩
/-- What a call answers, and what is there behind it. -/
def sndC (room : Int) (l : List PkV) (p : PkV) : Int := if sndB room l p = true then 0 else sndE p
def sndL (room : Int) (l : List PkV) (p : PkV) : List PkV := if sndB room l p = true then l ++ [p] else l
def sndN (room : Int) (l : List PkV) (p : PkV) (s : Int) : Int := if sndB room l p = true then s + 1 else s
def takC (l : List PkV) (i : Int) : Int := if takB l i = true then 0 else 51
def takP (l : List PkV) (i : Int) : PkV := if takB l i = true then (l[i.toNat]?).getD zP else zP
def takL (l : List PkV) (i : Int) : List PkV := if takB l i = true then l.take i.toNat ++ l.drop (i.toNat + 1) else l
def takN (l : List PkV) (i : Int) (s : Int) : Int := if takB l i = true then s + 1 else s
def dblC (room : Int) (l : List PkV) (i : Int) : Int := if dblB room l i = true then 0 else (if takB l i = true then 50 else 51)
def dblL (room : Int) (l : List PkV) (i : Int) : List PkV := if dblB room l i = true then l ++ [(l[i.toNat]?).getD zP] else l
theorem takB_at {l : List PkV} {i : Int} (h : takB l i = true) : ∃ k : Nat, i = k ∧ k < l.length ∧ i.toNat = k := by
  unfold takB wiB at h
  simp only [Bool.and_eq_true, decide_eq_true_eq] at h
  exact ⟨i.toNat, by omega, by omega, rfl⟩
/-- The program's net, with what its map tells. -/
structure NF (B n mb : Nat) (room sent taken : Int) (l : List PkV) (row : Value) (t : Nat) (W : World) : Prop where
  na : ∃ c f, NA B n mb room sent taken l row c f W ∧ FI l f ∧ c ≤ t
  len : l.length ≤ t
  hs : 0 ≤ sent ∧ sent ≤ t
  ht : 0 ≤ taken ∧ taken ≤ t
theorem NF.keep {B n mb : Nat} {room sent taken : Int} {l : List PkV} {row : Value} {t : Nat} {W W' : World} (h : NF B n mb room sent taken l row t W) (hb : Below W.heap.size W W') : NF B n mb room sent taken l row t W' := by
  obtain ⟨c, f, h1, h2, h3⟩ := h.na
  exact ⟨⟨c, f, h1.keep hb, h2, h3⟩, h.len, h.hs, h.ht⟩
theorem NF.up {B n mb : Nat} {room sent taken : Int} {l : List PkV} {row : Value} {t : Nat} {W : World} (h : NF B n mb room sent taken l row t W) : NF B n mb room sent taken l row (t + 1) W := by
  obtain ⟨c, f, h1, h2, h3⟩ := h.na
  exact ⟨⟨c, f, h1, h2, by omega⟩, by have := h.len; omega, by have := h.hs; push_cast; omega, by have := h.ht; push_cast; omega⟩
theorem send_any (B n mb : Nat) (room sent taken : Int) (l : List PkV) (row : Value) (t : Nat) (p : PkV) (w : World) (h : NF B n mb room sent taken l row t w) (hB : B ≤ w.heap.size) (hn : B ≤ n) (hm : B ≤ mb) (ht : t ≤ 80) : Calls Try.prog 19 #[.pointer (some ⟨n, 0, none⟩), pkV p] w fun e w' => e = .returned (.int .i64 (sndC room l p)) ∧ (∃ row', NF B n mb room (sndN room l p sent) taken (sndL room l p) row' (t + 1) w' ∧ NxQ row row' w) ∧ Out (NtF n mb row) w w' := by
  obtain ⟨c, f, h1, h2, h3⟩ := h.na
  have hl := h.len
  have hs := h.hs
  have htk := h.ht
  unfold sndC sndN sndL
  by_cases hok : sndB room l p = true
  · obtain ⟨q1, q2, q3, q4⟩ := sndB_iff.1 hok
    rw [if_pos hok, if_pos hok, if_pos hok]
    refine (send2_ok B n mb room sent taken l row c f p w h1 hB hn hm (by omega) (by omega) (h2.pgb (by omega)) (by omega) q1 q2 q3 q4).mono ?_
    rintro e w' ⟨rfl, ⟨row', hN, hx⟩, hO⟩
    exact ⟨rfl, ⟨row', ⟨⟨_, _, hN, h2.add (pk_ok7 q1 q2 q3), by omega⟩, by simp; omega, by push_cast; omega, by push_cast; omega⟩, hx.q⟩, hO⟩
  · rw [if_neg hok, if_neg hok, if_neg hok]
    refine (send_no B n mb room sent taken l row c f p w h1 (fun hh => hok (sndB_iff.2 hh))).mono ?_
    rintro e w' ⟨rfl, hb⟩
    exact ⟨rfl, ⟨row, (h.keep hb).up, NxQ.refl _ _⟩, Out.ofBelow hb⟩
theorem take_any (B n mb : Nat) (room sent taken : Int) (l : List PkV) (row : Value) (t : Nat) (i : Int) (w : World) (h : NF B n mb room sent taken l row t w) (hB : B ≤ w.heap.size) (hn : B ≤ n) (hm : B ≤ mb) (ht : t ≤ 80) : Calls Try.prog 21 #[.pointer (some ⟨n, 0, none⟩), .int .i64 i] w fun e w' => e = .returned (.tuple #[pkV (takP l i), .int .i64 (takC l i)]) ∧ (∃ row', NF B n mb room sent (takN l i taken) (takL l i) row' (t + 1) w' ∧ NxQ row row' w) ∧ Out (NtF n mb row) w w' := by
  obtain ⟨c, f, h1, h2, h3⟩ := h.na
  have hl := h.len
  have hs := h.hs
  have htk := h.ht
  unfold takC takN takL takP
  by_cases hok : takB l i = true
  · rw [if_pos hok, if_pos hok, if_pos hok, if_pos hok]
    obtain ⟨k, rfl, hkl, hkt⟩ := takB_at hok
    rw [hkt]
    have hp : l[k]? = some l[k] := List.getElem?_eq_getElem hkl
    rw [hp, Option.getD_some]
    refine (take2_ok B n mb room sent taken l row c f k w h1 hB hn hm (by omega) (by omega) (h2.pgb (by omega)) (by omega) l[k] hp (h2.ok _ (List.getElem_mem hkl))).mono ?_
    rintro e w' ⟨rfl, ⟨row', hN, hx⟩, hO⟩
    exact ⟨rfl, ⟨row', ⟨⟨_, _, hN, h2.take hp, by omega⟩, by simp; omega, by push_cast; omega, by push_cast; omega⟩, (show NxR row row' w from .inl hx).q⟩, hO⟩
  · rw [if_neg hok, if_neg hok, if_neg hok, if_neg hok]
    refine (take_no B n mb room sent taken l row c f i w h1 (by omega) (by unfold takB at hok; simpa using hok)).mono ?_
    rintro e w' ⟨rfl, hb⟩
    exact ⟨rfl, ⟨row, (h.keep hb).up, NxQ.refl _ _⟩, Out.ofBelow hb⟩
theorem double_any (B n mb : Nat) (room sent taken : Int) (l : List PkV) (row : Value) (t : Nat) (i : Int) (w : World) (h : NF B n mb room sent taken l row t w) (hB : B ≤ w.heap.size) (hn : B ≤ n) (hm : B ≤ mb) (ht : t ≤ 80) : Calls Try.prog 23 #[.pointer (some ⟨n, 0, none⟩), .int .i64 i] w fun e w' => e = .returned (.int .i64 (dblC room l i)) ∧ (∃ row', NF B n mb room sent taken (dblL room l i) row' (t + 1) w' ∧ NxQ row row' w) ∧ Out (NtF n mb row) w w' := by
  obtain ⟨c, f, h1, h2, h3⟩ := h.na
  have hl := h.len
  have hs := h.hs
  have htk := h.ht
  unfold dblC dblL
  by_cases hok : dblB room l i = true
  · rw [if_pos hok, if_pos hok]
    have hk2 : takB l i = true ∧ (l.length : Int) < room := by unfold dblB at hok; simpa using hok
    obtain ⟨k, rfl, hkl, hkt⟩ := takB_at hk2.1
    rw [hkt]
    have hp : l[k]? = some l[k] := List.getElem?_eq_getElem hkl
    rw [hp, Option.getD_some]
    refine (double2_ok B n mb room sent taken l row c f k w h1 hB hn hm (by omega) (by omega) (h2.pgb (by omega)) hkl (h2.ok _ (List.getElem_mem hkl)) hk2.2).mono ?_
    rintro e w' ⟨rfl, ⟨row', hN, hx⟩, hO⟩
    exact ⟨rfl, ⟨row', ⟨⟨_, _, hN, h2.add (h2.ok _ (List.getElem_mem hkl)), by omega⟩, by simp; omega, by push_cast; omega, by push_cast; omega⟩, hx.q⟩, hO⟩
  · rw [if_neg hok, if_neg hok]
    refine (double_no B n mb room sent taken l row c f i w h1 (by omega) (fun hh => hok (by unfold dblB takB; simpa using hh))).mono ?_
    rintro e w' ⟨rfl, hb⟩
    exact ⟨rfl, ⟨row, (h.keep hb).up, NxQ.refl _ _⟩, Out.ofBelow hb⟩
theorem len_any (B n mb : Nat) (room sent taken : Int) (l : List PkV) (row : Value) (t : Nat) (w : World) (h : NF B n mb room sent taken l row t w) (ht : t ≤ 81) : Calls Try.prog 30 #[.pointer (some ⟨n, 0, none⟩)] w fun e w' => e = .returned (.int .i64 (l.length : Nat)) ∧ Below w.heap.size w w' := by
  obtain ⟨c, f, h1, h2, h3⟩ := h.na
  have hl := h.len
  obtain ⟨ks, k1, k2, k3, k4, k5⟩ := h2.sum
  have := len_is B n mb room sent taken l row c f ks w h1 (h2.pgb (by omega)) k1 k2 (by omega) k4
  rw [k5] at this
  exact this
theorem all_any (B n mb : Nat) (room sent taken : Int) (l : List PkV) (row : Value) (t : Nat) (w : World) (h : NF B n mb room sent taken l row t w) (ht : t ≤ 81) : Calls Try.prog 25 #[.pointer (some ⟨n, 0, none⟩)] w fun e w' => ∃ v', e = .returned v' ∧ w'.ownsRow w.heap.size 56 3 v' l.length (celC pkE l) ∧ Below w.heap.size w w' := by
  obtain ⟨c, f, h1, h2, h3⟩ := h.na
  have hl := h.len
  exact all_is B n mb room sent taken l row c f w h1 (by omega)
theorem counts_any (B n mb : Nat) (room sent taken : Int) (l : List PkV) (row : Value) (t : Nat) (w : World) (h : NF B n mb room sent taken l row t w) : Calls Try.prog 26 #[.pointer (some ⟨n, 0, none⟩)] w fun e w' => e = .returned (.tuple #[.int .i64 sent, .int .i64 taken]) ∧ Below w.heap.size w w' := by
  obtain ⟨c, f, h1, h2, h3⟩ := h.na
  exact counts_is B n mb room sent taken l row c f w h1
/-- The document's net answers so too. -/
theorem rSend_any (B k : Nat) (room sent gone : Int) (l : List PkV) (row : Value) (p : PkV) (w : World) (h : RN B k room sent gone l row w) (hB : B ≤ w.heap.size) (hl : l.length ≤ 80) (hs : 0 ≤ sent ∧ sent ≤ 80) : Calls Try.prog 20 #[.pointer (some ⟨k, 0, none⟩), pkV p] w fun e w' => e = .returned (.int .i64 (sndC room l p)) ∧ (∃ row', RN B k room (sndN room l p sent) gone (sndL room l p) row' w' ∧ NxQ row row' w) ∧ Out (RtF k row) w w' := by
  unfold sndC sndN sndL
  by_cases hok : sndB room l p = true
  · obtain ⟨q1, q2, q3, q4⟩ := sndB_iff.1 hok
    rw [if_pos hok, if_pos hok, if_pos hok]
    exact rSend_ok B k room sent gone l row p w h hB (by omega) (by omega) q1 q2 q3 q4
  · rw [if_neg hok, if_neg hok, if_neg hok]
    refine (rSend_no B k room sent gone l row p w h (fun hh => hok (sndB_iff.2 hh))).mono ?_
    rintro e w' ⟨rfl, hb⟩
    exact ⟨rfl, ⟨row, h.keep hb, NxQ.refl _ _⟩, Out.ofBelow hb⟩
theorem rTake_any (B k : Nat) (room sent gone : Int) (l : List PkV) (row : Value) (i : Int) (w : World) (h : RN B k room sent gone l row w) (hB : B ≤ w.heap.size) (hl : l.length ≤ 80) (hs : 0 ≤ gone ∧ gone ≤ 80) : Calls Try.prog 22 #[.pointer (some ⟨k, 0, none⟩), .int .i64 i] w fun e w' => e = .returned (.tuple #[pkV (takP l i), .int .i64 (takC l i)]) ∧ (∃ row', RN B k room sent (takN l i gone) (takL l i) row' w' ∧ NxQ row row' w) ∧ Out (RtF k row) w w' := by
  unfold takC takN takL takP
  by_cases hok : takB l i = true
  · rw [if_pos hok, if_pos hok, if_pos hok, if_pos hok]
    obtain ⟨j, rfl, hkl, hkt⟩ := takB_at hok
    rw [hkt]
    have hp : l[j]? = some l[j] := List.getElem?_eq_getElem hkl
    rw [hp, Option.getD_some]
    exact rTake_ok B k room sent gone l row j l[j] w h hB (by omega) (by omega) hp
  · rw [if_neg hok, if_neg hok, if_neg hok, if_neg hok]
    refine (rTake_no B k room sent gone l row i w h (by unfold takB at hok; simpa using hok)).mono ?_
    rintro e w' ⟨rfl, hb⟩
    exact ⟨rfl, ⟨row, h.keep hb, NxQ.refl _ _⟩, Out.ofBelow hb⟩
theorem rDouble_any (B k : Nat) (room sent gone : Int) (l : List PkV) (row : Value) (i : Int) (w : World) (h : RN B k room sent gone l row w) (hB : B ≤ w.heap.size) (hl : l.length ≤ 80) : Calls Try.prog 24 #[.pointer (some ⟨k, 0, none⟩), .int .i64 i] w fun e w' => e = .returned (.int .i64 (dblC room l i)) ∧ (∃ row', RN B k room sent gone (dblL room l i) row' w' ∧ NxQ row row' w) ∧ Out (RtF k row) w w' := by
  unfold dblC dblL
  by_cases hok : dblB room l i = true
  · rw [if_pos hok, if_pos hok]
    have hk2 : takB l i = true ∧ (l.length : Int) < room := by unfold dblB at hok; simpa using hok
    obtain ⟨j, rfl, hkl, hkt⟩ := takB_at hk2.1
    rw [hkt]
    have hp : l[j]? = some l[j] := List.getElem?_eq_getElem hkl
    rw [hp, Option.getD_some]
    exact rDouble_ok B k room sent gone l row j l[j] w h hB (by omega) hp hk2.2
  · rw [if_neg hok, if_neg hok]
    refine (rDouble_no B k room sent gone l row i w h (by omega) (fun hh => hok (by unfold dblB takB; simpa using hh))).mono ?_
    rintro e w' ⟨rfl, hb⟩
    exact ⟨rfl, ⟨row, h.keep hb, NxQ.refl _ _⟩, Out.ofBelow hb⟩
/-- What stays when blocks are turned that are none of its own. -/
theorem own_stays {F : Nat → Prop} {W W' : World} {B : Nat} {v : Value} {m : Nat} {xs : List Value} (h : W.ownsRow B 56 3 v m xs) (hO : Out F W W') (hF : ∀ j, F j → v.ownBlock ≠ some j) : W'.ownsRow B 56 3 v m xs := by
  obtain ⟨h1, h2 | ⟨g, cap, cur, rfl, hb, hg, rest⟩⟩ := h
  · exact ⟨h1, .inl h2⟩
  · refine ⟨h1, .inr ⟨g, cap, cur, rfl, hb, (hO.block g (Array.getElem?_eq_some_iff.1 hg).1 (fun c => hF g c rfl)).trans hg, rest⟩⟩
theorem NF.stays {F : Nat → Prop} {B n mb : Nat} {room sent taken : Int} {l : List PkV} {row : Value} {t : Nat} {W W' : World} (h : NF B n mb room sent taken l row t W) (hO : Out F W W') (hF : ∀ j, F j → j ≠ n ∧ j ≠ mb ∧ row.ownBlock ≠ some j) : NF B n mb room sent taken l row t W' := by
  obtain ⟨c, f, h1, h2, h3⟩ := h.na
  refine ⟨⟨c, f, ⟨(hO.block n (Array.getElem?_eq_some_iff.1 h1.blk).1 (fun e => (hF n e).1 rfl)).trans h1.blk, own_stays h1.own hO (fun j e => (hF j e).2.2), h1.mp.block (hO.block mb h1.mp.lt (fun e => (hF mb e).2.1 rfl))⟩, h2, h3⟩, h.len, h.hs, h.ht⟩
theorem RN.stays {F : Nat → Prop} {B k : Nat} {room sent gone : Int} {l : List PkV} {row : Value} {W W' : World} (h : RN B k room sent gone l row W) (hO : Out F W W') (hF : ∀ j, F j → j ≠ k ∧ row.ownBlock ≠ some j) : RN B k room sent gone l row W' :=
  ⟨(hO.block k (Array.getElem?_eq_some_iff.1 h.blk).1 (fun e => (hF k e).1 rfl)).trans h.blk, own_stays h.own hO (fun j e => (hF j e).2)⟩
/-- A row's block is none that holds something else. -/
theorem row_other {W : World} {B k : Nat} {v : Value} {m : Nat} {xs : List Value} {cs : Array Value} {ty : TypeId} (h : W.ownsRow B 56 3 v m xs) (hk : W.heap[k]? = some (.cells cs ty (0, 0))) (hne : ty ≠ 56) : v.ownBlock ≠ some k := by
  intro e
  obtain ⟨_, ⟨rfl, _⟩ | ⟨g, cap, cur, rfl, _, hg, _⟩⟩ := h
  · cases e
  · simp only [Value.ownBlock, Option.some.injEq] at e
    rw [e, hk] at hg
    simp only [Option.some.injEq, Obj.cells.injEq] at hg
    exact hne hg.2.1
theorem blk_other {W : World} {a b : Nat} {cs cs' : Array Value} {ty ty' : TypeId} (h : W.heap[a]? = some (.cells cs ty (0, 0))) (h' : W.heap[b]? = some (.cells cs' ty' (0, 0))) (hne : ty ≠ ty') : a ≠ b := by
  rintro rfl
  rw [h] at h'
  simp only [Option.some.injEq, Obj.cells.injEq] at h'
  exact hne h'.2.1
/-- Both nets, and the other one, in memory. -/
structure SS (w : World) (D n mb k n2 mb2 : Nat) (room : Int) (t : Nat) (l1 l2 : List PkV) (row rk : Value) (s1 g1 s2 g2 : Int) (W : World) : Prop where
  na : NF D n mb room s1 g1 l1 row t W
  rn : RN D k room s2 g2 l2 rk W
  nb : NF D n2 mb2 3 0 0 [] (.slice none 0 0) 0 W
  dj : ∀ j, row.ownBlock = some j → rk.ownBlock ≠ some j
  bel : Below w.heap.size w W
  hD : w.heap.size ≤ D
  hZ : D ≤ W.heap.size
  hn : D ≤ n
  hm : D ≤ mb
  hk : D ≤ k
  h2 : n ≠ n2
  h3 : mb ≠ mb2
theorem SS.keep {w : World} {D n mb k n2 mb2 : Nat} {room : Int} {t : Nat} {l1 l2 : List PkV} {row rk : Value} {s1 g1 s2 g2 : Int} {W W' : World} (h : SS w D n mb k n2 mb2 room t l1 l2 row rk s1 g1 s2 g2 W) (hb : Below W.heap.size W W') : SS w D n mb k n2 mb2 room t l1 l2 row rk s1 g1 s2 g2 W' :=
  ⟨h.na.keep hb, h.rn.keep hb, h.nb.keep hb, h.dj, below_via h.bel hb, h.hD, Nat.le_trans h.hZ hb.size, h.hn, h.hm, h.hk, h.h2, h.h3⟩
theorem SS.turnN {w : World} {D n mb k n2 mb2 : Nat} {room : Int} {t t' : Nat} {l1 l2 l' : List PkV} {row rk row' : Value} {s1 g1 s2 g2 s' g' : Int} {W W' : World} (h : SS w D n mb k n2 mb2 room t l1 l2 row rk s1 g1 s2 g2 W) (hO : Out (NtF n mb row) W W') (hN : NF D n mb room s' g' l' row' t' W') (hx : NxQ row row' W) : SS w D n mb k n2 mb2 room t' l' l2 row' rk s' g' s2 g2 W' := by
  obtain ⟨c, f, a1, a2, a3⟩ := h.na.na
  obtain ⟨c2, f2, b1, b2, b3⟩ := h.nb.na
  refine ⟨hN, h.rn.stays hO (fun j e => ?_), h.nb.stays hO (fun j e => ?_), fun j e e2 => ?_, below_out h.bel hO (fun j e => ?_), h.hD, Nat.le_trans h.hZ hO.size, h.hn, h.hm, h.hk, h.h2, h.h3⟩
  · rcases e with rfl | rfl | e
    · exact ⟨blk_other a1.blk h.rn.blk (by decide), row_other h.rn.own a1.blk (by decide)⟩
    · exact ⟨a1.mp.nb h.rn.blk, a1.mp.row h.rn.own⟩
    · exact ⟨fun e2 => row_other a1.own h.rn.blk (by decide) (by rw [← e2]; exact e), h.dj j e⟩
  · rcases e with rfl | rfl | e
    · exact ⟨h.h2, fun e2 => b1.mp.nb a1.blk e2.symm, fun e2 => by cases e2⟩
    · exact ⟨a1.mp.nb b1.blk, h.h3, fun e2 => by cases e2⟩
    · exact ⟨fun e2 => row_other a1.own b1.blk (by decide) (by rw [← e2]; exact e), fun e2 => b1.mp.row a1.own (by rw [← e2]; exact e), fun e2 => by cases e2⟩
  · rcases hx j e with e3 | e3
    · exact h.dj j e3 e2
    · have := (h.rn.own.lt j e2).2
      omega
  · have := h.hD
    have := h.hn
    have := h.hm
    rcases e with rfl | rfl | e
    · omega
    · omega
    · have := (a1.own.lt j e).1
      omega
theorem SS.turnK {w : World} {D n mb k n2 mb2 : Nat} {room : Int} {t : Nat} {l1 l2 l' : List PkV} {row rk rk' : Value} {s1 g1 s2 g2 s' g' : Int} {W W' : World} (h : SS w D n mb k n2 mb2 room t l1 l2 row rk s1 g1 s2 g2 W) (hO : Out (RtF k rk) W W') (hN : RN D k room s' g' l' rk' W') (hx : NxQ rk rk' W) : SS w D n mb k n2 mb2 room t l1 l' row rk' s1 g1 s' g' W' := by
  obtain ⟨c, f, a1, a2, a3⟩ := h.na.na
  obtain ⟨c2, f2, b1, b2, b3⟩ := h.nb.na
  refine ⟨h.na.stays hO (fun j e => ?_), hN, h.nb.stays hO (fun j e => ?_), fun j e e2 => ?_, below_out h.bel hO (fun j e => ?_), h.hD, Nat.le_trans h.hZ hO.size, h.hn, h.hm, h.hk, h.h2, h.h3⟩
  · rcases e with rfl | e
    · exact ⟨fun e2 => blk_other a1.blk h.rn.blk (by decide) e2.symm, fun e2 => a1.mp.nb h.rn.blk e2.symm, row_other a1.own h.rn.blk (by decide)⟩
    · exact ⟨fun e2 => row_other h.rn.own a1.blk (by decide) (by rw [← e2]; exact e), fun e2 => a1.mp.row h.rn.own (by rw [← e2]; exact e), fun e2 => h.dj j e2 e⟩
  · rcases e with rfl | e
    · exact ⟨fun e2 => blk_other b1.blk h.rn.blk (by decide) e2.symm, fun e2 => b1.mp.nb h.rn.blk e2.symm, fun e2 => by cases e2⟩
    · exact ⟨fun e2 => row_other h.rn.own b1.blk (by decide) (by rw [← e2]; exact e), fun e2 => b1.mp.row h.rn.own (by rw [← e2]; exact e), fun e2 => by cases e2⟩
  · rcases hx j e2 with e3 | e3
    · exact h.dj j e e3
    · have := (a1.own.lt j e).2
      omega
  · have := h.hD
    have := h.hk
    rcases e with rfl | e
    · omega
    · have := (h.rn.own.lt j e).1
      omega
/-- A box beside both. -/
theorem boxN {w : World} {D n mb k n2 mb2 b : Nat} {room : Int} {t : Nat} {l1 l2 : List PkV} {row rk : Value} {s1 g1 s2 g2 : Int} {W W' : World} {cs : Array Value} (h : SS w D n mb k n2 mb2 room t l1 l2 row rk s1 g1 s2 g2 W) (hb : W.heap[b]? = some (.cells cs 58 (0, 0))) (hO : Out (NtF n mb row) W W') : W'.heap[b]? = some (.cells cs 58 (0, 0)) := by
  obtain ⟨c, f, a1, a2, a3⟩ := h.na.na
  exact box_stays a1 hb hO
theorem boxK {w : World} {D n mb k n2 mb2 b : Nat} {room : Int} {t : Nat} {l1 l2 : List PkV} {row rk : Value} {s1 g1 s2 g2 : Int} {W W' : World} {cs : Array Value} {ty : TypeId} (h : SS w D n mb k n2 mb2 room t l1 l2 row rk s1 g1 s2 g2 W) (hb : W.heap[b]? = some (.cells cs ty (0, 0))) (h1 : ty ≠ 96) (h2 : rk.ownBlock ≠ some b) (hO : Out (RtF k rk) W W') : W'.heap[b]? = some (.cells cs ty (0, 0)) := by
  refine (hO.block b (Array.getElem?_eq_some_iff.1 hb).1 (fun e => ?_)).trans hb
  rcases e with rfl | e
  · exact blk_other hb h.rn.blk h1 rfl
  · exact h2 e
end Go.Proofs.Ytagfolckodpioaa.K2
namespace Go.Proofs.Ytagfolckodpioaa.K2
open Go.RowKit Go.Maps Go.Proofs.Ytagfolckodpioaa
set_option linter.all false
theorem row_at3 {w : World} {B n : Nat} {a : Option Addr} {c : Nat} {xs : List Value} (ho : w.ownsRow B 56 3 (.slice a n c) n xs) (i : Nat) (hi : i < n) : ∃ g off cur u0 u1 u2, a = some ⟨g, off, none⟩ ∧ B ≤ g ∧ w.heap[g]? = some (.cells cur 56 (0, 0)) ∧ g < w.heap.size ∧ (w.cell? ⟨g, off + i * 3, none⟩ = some u0 ∧ w.cell? ⟨g, off + i * 3 + 1, none⟩ = some u1 ∧ w.cell? ⟨g, off + i * 3 + 2, none⟩ = some u2) ∧ ∀ j, w.frozen? ⟨g, j, none⟩ = false := by
  obtain ⟨a0, c0, e0, h0⟩ := row_atG ho 0 (by omega)
  obtain ⟨a1, c1, e1, h1⟩ := row_atG ho 1 (by omega)
  obtain ⟨a2, c2, e2, h2⟩ := row_atG ho 2 (by omega)
  simp only [Value.slice.injEq, true_and] at e0 e1 e2
  obtain ⟨rfl, rfl⟩ := e0
  obtain ⟨rfl, rfl⟩ := e1
  obtain ⟨rfl, rfl⟩ := e2
  obtain ⟨g, off, cur, u0, rfl, hB, hg, hl, q0, f0⟩ := h0 i hi
  obtain ⟨g1, off1, cur1, u1, x1, -, -, -, q1, f1⟩ := h1 i hi
  obtain ⟨g2, off2, cur2, u2, x2, -, -, -, q2, f2⟩ := h2 i hi
  simp only [Option.some.injEq, Addr.mk.injEq, and_true] at x1 x2
  obtain ⟨rfl, rfl⟩ := x1
  obtain ⟨rfl, rfl⟩ := x2
  exact ⟨g, off, cur, u0, u1, u2, rfl, hB, hg, hl, ⟨by simpa using q0, q1, q2⟩, fun j => free_at hg j⟩
/-- Behind what was done: both nets hold the same. -/
def BothAt (w : World) (D n mb k n2 mb2 : Nat) (room : Int) (t : Nat) (W : World) : Prop := ∃ l row rk s g, SS w D n mb k n2 mb2 room t l l row rk s g s g W
theorem SS.up {w : World} {D n mb k n2 mb2 : Nat} {room : Int} {t : Nat} {l1 l2 : List PkV} {row rk : Value} {s1 g1 s2 g2 : Int} {W : World} (h : SS w D n mb k n2 mb2 room t l1 l2 row rk s1 g1 s2 g2 W) : SS w D n mb k n2 mb2 room (t + 1) l1 l2 row rk s1 g1 s2 g2 W :=
  ⟨h.na.up, h.rn, h.nb, h.dj, h.bel, h.hD, h.hZ, h.hn, h.hm, h.hk, h.h2, h.h3⟩
set_option maxHeartbeats 16000000 in
set_option maxRecDepth 100000 in
theorem scripts_yes (rm : Int) (sa : Option Addr) (sc : Nat) (ops : List OpV) (w : World) (hO : OpsAt w sa ops) (hl : ops.length ≤ 9223372036854775807) (hr : wiB rm 1 3000 = true) : Calls Try.prog 6 #[.int .i64 rm, .slice sa ops.length sc] w fun e w' => e = .returned (.bool true) ∧ Below w.heap.size w w' := by
  have HLV := hideIt (fun W => live_is W)
  have HOP := hideIt (fun W (hW : Below w.heap.size w W) => hO.keep hW)
  have HN1 := hideIt (newNet_yes rm w hr)
  have HN2 := hideIt (fun W => rNew_yes rm W hr)
  have HN3 := hideIt (fun W => newNet_yes 3 W (by decide))
  clear hO hr
  go_enter Try.func6, Try.ntmps6
  go_wp2_with fail
  refine HN1.out.mono ?_
  rintro e w1 ⟨rfl, h1⟩
  dsimp only
  have H1 := hideIt h1
  clear h1
  go_wp2_with fail
  refine (HN2.out _).mono ?_
  rintro e w2 ⟨rfl, h2⟩
  dsimp only
  have H2 := hideIt h2
  clear h2
  go_wp2_with fail
  refine (HN3.out _).mono ?_
  rintro e w3 ⟨rfl, h3⟩
  dsimp only
  have H3 := hideIt h3
  clear h3
  obtain ⟨D, hD⟩ : ∃ D, D = w.heap.size := ⟨_, rfl⟩
  have S3 : Hid (BothAt w D (D + 1) D w1.heap.size (w2.heap.size + 1) w2.heap.size rm 0 w3) := by
    have h1 := H1.out
    have h2 := H2.out
    have h3 := H3.out
    have b1 : Below w.heap.size w w1 := by rw [h1]; exact below2 w _ _
    have b2 : Below w1.heap.size w1 w2 := by rw [h2]; exact below1 w1 _
    have b3 : Below w2.heap.size w2 w3 := by rw [h3]; exact below2 w2 _ _
    have z1 : w1.heap.size = w.heap.size + 2 := by rw [h1]; exact (two_heap w _ _).2.2
    have z2 : w2.heap.size = w1.heap.size + 1 := by rw [h2]; simp
    refine ⟨[], .slice none 0 0, .slice none 0 0, 0, 0, ?_, ?_, ?_, fun j e => (by cases e), below_via (below_via b1 b2) b3, by omega, ?_, by omega, by omega, by omega, by omega, by omega⟩
    · refine NF.keep (NF.keep (W := w1) ⟨⟨0, f0, ⟨?_, own_nil _ _, ?_⟩, FI.start, Nat.le_refl _⟩, Nat.le_refl _, by simp, by simp⟩ b2) b3
      · rw [h1, hD]
        exact (two_heap w _ _).2.1
      · rw [h1, hD]
        exact (PM.made w).keep (below1 _ _)
    · refine RN.keep (W := w2) ⟨?_, own_nil _ _⟩ b3
      rw [h2]
      exact heap_alloc_new w1 _
    · refine ⟨⟨0, f0, ⟨?_, own_nil _ _, ?_⟩, FI.start, Nat.le_refl _⟩, Nat.le_refl _, by simp, by simp⟩
      · rw [h3]
        exact (two_heap w2 _ _).2.1
      · rw [h3]
        exact (PM.made w2).keep (below1 _ _)
    · have := b3.size
      omega
  rw [← hD]
  have HDD := hideIt hD
  clear HN1 HN2 HN3 H1 H2 H3 hD
  generalize w2.heap.size + 1 = n2 at *
  generalize w2.heap.size = mb2 at *
  generalize w1.heap.size = k at *
  go_wp2_with fail
  refine (HLV.out _).mono ?_
  rintro e w4 ⟨rfl, hb⟩
  dsimp only
  have S4 : Hid (BothAt w D (D + 1) D k n2 mb2 rm 0 w4) := by
    obtain ⟨l, row, rk, s, g, hS⟩ := S3.out
    exact ⟨l, row, rk, s, g, hS.keep hb⟩
  clear hb S3 HLV
  go_upto_region 7 with fail
  go_loopw [11] (fun u wr => ∃ t : Nat, u = .int .i64 t ∧ t ≤ ops.length ∧ t ≤ 80 ∧ Hid (BothAt w D (D + 1) D k n2 mb2 rm t wr)) (fun u _ => ops.length - (RowKit.intOf u).toNat)
  case atStart => exact ⟨0, rfl, Nat.zero_le _, by omega, S4⟩
  case round =>
    clear S4
    obtain ⟨t, rfl, ht, ht80, HB⟩ := hrel
    obtain ⟨l, row, rk, s, g, HK0⟩ := HB.out
    have HK := hideIt HK0
    clear HK0 HB
    by_cases hlt : t < ops.length ∧ t < 80
    · have hltI : (t : Int) < (ops.length : Int) := by omega
      have hlt80 : (t : Int) < 80 := by omega
      have ht0 : (0 : Int) ≤ (t : Int) := by omega
      have hw : IntKind.i64.wrap ((t : Int) + 1) = ((t + 1 : Nat) : Int) := by rw [IntKind.wrap_i64]; omega
      obtain ⟨b, off, hsa, hbl, q0, q1, q2, q3, q4⟩ := HOP.out _ HK.out.bel t hlt.1
      have hbr := hbl
      generalize ops[t] = o at *
      obtain ⟨oa, on, ⟨pf, pd, pt⟩⟩ := o
      dsimp only at q0 q1 q2 q3 q4
      have hb1 := below1 wr (.cells #[.int .i64 oa, .int .i64 on, .int .i64 pf, .int .i64 pd, .string pt] 58)
      have K1 := hideIt (HK.out.keep hb1)
      have X1 := hideIt (heap_alloc_new wr (.cells #[.int .i64 oa, .int .i64 on, .int .i64 pf, .int .i64 pd, .string pt] 58))
      have c5 : sa = some ⟨b, off, none⟩ := hsa
      clear hb1 HK hsa
      subst c5
      go_upto_region 11 with fail
      clear q0 q1 q2 q3 q4 hbl hbr
      generalize wr.alloc (.cells #[.int .i64 oa, .int .i64 on, .int .i64 pf, .int .i64 pd, .string pt] 58) = W3 at *
      generalize wr.heap.size = kx at *
      have hlen := K1.out.na.len
      have hsb := K1.out.na.hs
      have hgb := K1.out.na.ht
      obtain ⟨⟨x0, x1, x2, x3, x4⟩, xf, xz⟩ := five5_at X1.out
      by_cases a0 : oa = 0
      · subst a0
        have HD1 : Hid (∀ W, Below W3.heap.size W3 W → Calls Try.prog 19 #[.pointer (some ⟨D + 1, 0, none⟩), .agg #[.int .i64 pf, .int .i64 pd, .string pt]] W fun e w' => e = .returned (.int .i64 (sndC rm l ⟨pf, pd, pt⟩)) ∧ Hid ((∃ row', SS w D (D + 1) D k n2 mb2 rm (t + 1) (sndL rm l ⟨pf, pd, pt⟩) l row' rk (sndN rm l ⟨pf, pd, pt⟩ s) g s g w') ∧ w'.heap[kx]? = some (.cells #[.int .i64 0, .int .i64 on, .int .i64 pf, .int .i64 pd, .string pt] 58 (0, 0))) ∧ (w'.cell? ⟨kx, 2, none⟩ = some (.int .i64 pf) ∧ w'.cell? ⟨kx, 3, none⟩ = some (.int .i64 pd) ∧ w'.cell? ⟨kx, 4, none⟩ = some (.string pt)) ∧ kx < w'.heap.size) := fun W hW => by
          have KW := K1.out.keep hW
          have XW := blkK X1.out hW
          refine (send_any D (D + 1) D rm s g l row t ⟨pf, pd, pt⟩ W KW.na KW.hZ KW.hn KW.hm (by omega)).mono ?_
          rintro e w' ⟨rfl, ⟨row', hN, hx⟩, hO⟩
          have Xw := boxN KW XW hO
          obtain ⟨⟨y0, y1, y2, y3, y4⟩, yf, yz⟩ := five5_at Xw
          exact ⟨rfl, ⟨⟨row', KW.turnN hO hN hx⟩, Xw⟩, ⟨y2, y3, y4⟩, yz⟩
        have HD2 : Hid (∀ W, ((∃ row', SS w D (D + 1) D k n2 mb2 rm (t + 1) (sndL rm l ⟨pf, pd, pt⟩) l row' rk (sndN rm l ⟨pf, pd, pt⟩ s) g s g W) ∧ W.heap[kx]? = some (.cells #[.int .i64 0, .int .i64 on, .int .i64 pf, .int .i64 pd, .string pt] 58 (0, 0))) → Calls Try.prog 20 #[.pointer (some ⟨k, 0, none⟩), .agg #[.int .i64 pf, .int .i64 pd, .string pt]] W fun e w' => e = .returned (.int .i64 (sndC rm l ⟨pf, pd, pt⟩)) ∧ Hid (BothAt w D (D + 1) D k n2 mb2 rm (t + 1) w') ∧ (w'.cell? ⟨kx, 2, none⟩ = some (.int .i64 pf) ∧ w'.cell? ⟨kx, 3, none⟩ = some (.int .i64 pd) ∧ w'.cell? ⟨kx, 4, none⟩ = some (.string pt)) ∧ kx < w'.heap.size) := fun W hW => by
          obtain ⟨⟨row', KW⟩, XW⟩ := hW
          refine (rSend_any D k rm s g l rk ⟨pf, pd, pt⟩ W KW.rn KW.hZ (by omega) (by omega)).mono ?_
          rintro e w' ⟨rfl, ⟨rk', hN, hx⟩, hO⟩
          have Xw := boxK KW XW (by decide) (row_other KW.rn.own XW (by decide)) hO
          obtain ⟨⟨y0, y1, y2, y3, y4⟩, yf, yz⟩ := five5_at Xw
          exact ⟨rfl, ⟨_, _, _, _, _, KW.turnK hO hN hx⟩, ⟨y2, y3, y4⟩, yz⟩
        have HR3 := hideIt (Below.refl W3.heap.size W3)
        clear K1 X1
        generalize sndC rm l ⟨pf, pd, pt⟩ = er at *
        generalize sndL rm l ⟨pf, pd, pt⟩ = l5 at *
        generalize sndN rm l ⟨pf, pd, pt⟩ s = s5 at *
        go_upto_region 13 with fail
        go_region_held3 (fun W => W.cell? ⟨kx, 2, none⟩ = some (.int .i64 pf) ∧ W.cell? ⟨kx, 3, none⟩ = some (.int .i64 pd) ∧ W.cell? ⟨kx, 4, none⟩ = some (.string pt)) (go_keep) (first | (go_at_call 19; refine (HD1.out _ (by first | exact HR3.out | exact HR3.out.drew)).mono ?_; rintro e wA ⟨rfl, HWA, ⟨e0A, e1A, e2A⟩, egA⟩; clear HD1) | (go_at_call 20; refine (HD2.out _ HWA.out).mono ?_; rintro e wB ⟨rfl, HWB, ⟨e0B, e1B, e2B⟩, egB⟩; clear HD2))
        clear HR3 e0B e1B e2B egB e0A e1A e2A egA HWA x0 x1 x2 x3 x4 xf xz hlen hsb hgb
        have KT := HWB
        clear HWB
        go_upto_region 20 with fail
        generalize wB = WT at *
        obtain ⟨l5, row5, rk5, s5, g5, KS5⟩ := KT.out
        have K5 := hideIt KS5
        clear KS5 KT
        have hln := K5.out.na.len
        have HAL := hideIt (all_any D (D + 1) D rm s5 g5 l5 row5 (t + 1) WT K5.out.na (by omega))
        go_wp2_with fail
        refine HAL.out.mono ?_
        rintro e wl ⟨lv, rfl, hlo, hb⟩
        dsimp only
        have KL := hideIt (K5.out.keep hb)
        have OL := hideIt hlo
        have BL := hideIt hb
        obtain ⟨lA, lC, rfl⟩ := own_len hlo
        clear hlo hb HAL
        have HCT := hideIt (counts_any D (D + 1) D rm s5 g5 l5 row5 (t + 1) wl KL.out.na)
        go_wp2_with fail
        refine HCT.out.mono ?_
        rintro e w6 ⟨rfl, hb⟩
        dsimp only
        have K6 := hideIt (KL.out.keep hb)
        have O6 := hideIt (own_keep OL.out hb)
        have B6 := hideIt (below_via BL.out hb)
        clear hb KL OL BL HCT
        have HCT := hideIt (rCounts_is D k rm s5 g5 l5 rk5 w6 K6.out.rn)
        go_wp2_with fail
        refine HCT.out.mono ?_
        rintro e w7 ⟨rfl, hb⟩
        dsimp only
        have K7 := hideIt (K6.out.keep hb)
        have O7 := hideIt (own_keep O6.out hb)
        have B7 := hideIt (below_via B6.out hb)
        clear hb K6 O6 B6 HCT
        have HAL := hideIt (rAll_is D k rm s5 g5 l5 rk5 w7 K7.out.rn (by omega))
        go_wp2_with fail
        refine HAL.out.mono ?_
        rintro e w8 ⟨kv, rfl, hko, hb⟩
        dsimp only
        have K8 := hideIt (K7.out.keep hb)
        have O8 := hideIt (own_keep O7.out hb)
        have B8 := hideIt (below_via B7.out hb)
        have GK : Hid (SGot 3 32 pkE w8 kv l5) := own_sgot hko (by omega)
        have GL : Hid (SGot 3 32 pkE w8 (.slice lA l5.length lC) l5) := own_sgot O8.out (by omega)
        clear hko hb K7 O7 B7 HAL
        have HSM := hideIt (sameL_is _ _ l5 w8 GL.out GK.out (by omega))
        obtain ⟨kA, kC, rfl⟩ := GK.out.slice
        go_wp2_with fail
        refine HSM.out.mono ?_
        rintro e w9 ⟨rfl, hb⟩
        dsimp only
        have K9 := hideIt (K8.out.keep hb)
        have O9 := hideIt (own_keep O8.out hb)
        have B9 := hideIt (below_via B8.out hb)
        clear hb K8 O8 B8 HSM GK GL
        have HLN := hideIt (len_any D (D + 1) D rm s5 g5 l5 row5 (t + 1) w9 K9.out.na (by omega))
        go_wp2_with fail
        refine HLN.out.mono ?_
        rintro e wA ⟨rfl, hb⟩
        dsimp only
        have KA := hideIt (K9.out.keep hb)
        have OA := hideIt (own_keep O9.out hb)
        have BA := hideIt (below_via B9.out hb)
        clear hb K9 O9 B9 HLN
        have HLN := hideIt (rLen_is D k rm s5 g5 l5 rk5 wA KA.out.rn)
        go_wp2_with fail
        refine HLN.out.mono ?_
        rintro e wB ⟨rfl, rfl⟩
        dsimp only
        clear HLN KA
        go_upto_region 26 with fail
        go_loopw [23] (fun u wr => ∃ j : Nat, u = .int .i64 j ∧ j ≤ l5.length ∧ Hid ((∃ xs, wr.ownsRow WT.heap.size 56 3 (.slice lA l5.length lC) l5.length xs) ∧ Below WT.heap.size WT wr)) (fun u _ => l5.length - (RowKit.intOf u).toNat)
        case atStart => exact ⟨0, rfl, Nat.zero_le _, hideIt ⟨⟨_, OA.out⟩, BA.out⟩⟩
        case round =>
          clear OA BA
          obtain ⟨j, rfl, hj, HR⟩ := hrel
          by_cases hjl : j < l5.length
          · have hjI : (j : Int) < (l5.length : Int) := by omega
            have hj0 : (0 : Int) ≤ (j : Int) := by omega
            have hwj : IntKind.i64.wrap ((j : Int) + 1) = ((j + 1 : Nat) : Int) := by rw [IntKind.wrap_i64]; omega
            obtain ⟨⟨xs, hxs⟩, hbl⟩ := HR.out
            obtain ⟨g, off, cur, u0, u1, u2, hlA, hgB, hg, hgl, ⟨e0, e1, e2⟩, hfz⟩ := row_at3 hxs j hjl
            have HN : Hid ((∃ ys, (((wr.setCell ⟨g, off + j * 3, none⟩ (.int .i64 0)).setCell ⟨g, off + j * 3 + 1, none⟩ (.int .i64 0)).setCell ⟨g, off + j * 3 + 2, none⟩ (.string ⟨#[119, 114, 105, 116, 116, 101, 110]⟩)).ownsRow WT.heap.size 56 3 (.slice lA l5.length lC) l5.length ys) ∧ Below WT.heap.size WT (((wr.setCell ⟨g, off + j * 3, none⟩ (.int .i64 0)).setCell ⟨g, off + j * 3 + 1, none⟩ (.int .i64 0)).setCell ⟨g, off + j * 3 + 2, none⟩ (.string ⟨#[119, 114, 105, 116, 116, 101, 110]⟩))) := by
              obtain ⟨y1, z1⟩ := row_setG (j := off + j * 3) (u := .int .i64 0) hxs hg
              obtain ⟨y2, z2⟩ := row_setG (j := off + j * 3 + 1) (u := .int .i64 0) z1 (heap_set hg _ _)
              obtain ⟨y3, z3⟩ := row_setG (j := off + j * 3 + 2) (u := .string ⟨#[119, 114, 105, 116, 116, 101, 110]⟩) z2 (heap_set (heap_set hg _ _) _ _)
              exact ⟨⟨y3, z3⟩, belowSet _ (belowSet _ (belowSet _ hbl hgB) hgB) hgB⟩
            clear HR hxs hbl hg
            have f0 := hfz (off + j * 3)
            have f1 := hfz (off + j * 3 + 1)
            have f2 := hfz (off + j * 3 + 2)
            subst hlA
            clear hfz
            go_wp2
            go_roundw
            case rel => exact ⟨j + 1, by go_num, by omega, HN⟩
            case measure => simp [RowKit.intOf]; omega
          · have hjI : ¬ (j : Int) < (l5.length : Int) := by omega
            have KN : Hid (BothAt w D (D + 1) D k n2 mb2 rm (t + 1) wr) := ⟨l5, row5, rk5, s5, g5, K5.out.keep HR.out.2⟩
            clear K5 HR
            go_wp2
            go_roundw
            case rel => exact ⟨t + 1, by go_num, by omega, by omega, KN⟩
            case measure => simp [RowKit.intOf]; omega
      · have q0z : (oa == 0) = false := by simpa using a0
        by_cases a1 : oa = 1
        · subst a1
          have q1z : ((1 : Int) == 0) = false := rfl
          have HTA := hideIt (take_any D (D + 1) D rm s g l row t on W3 K1.out.na K1.out.hZ K1.out.hn K1.out.hm (by omega))
          go_wp2_with fail
          refine HTA.out.mono ?_
          rintro e W4 ⟨rfl, ⟨row', hN, hx⟩, hO⟩
          dsimp only
          have K4 := hideIt (K1.out.turnN hO hN hx)
          have X4 := hideIt (boxN K1.out X1.out hO)
          clear hN hx hO K1 X1 HTA x0 x1 x2 x3 x4 xf xz
          unfold pkV
          generalize hy : takP l on = y at *
          generalize hc : takC l on = er at *
          have HY := hideIt hy
          have HC := hideIt hc
          clear hy hc
          have hb5 := below1 W4 (.cells #[.int .i64 y.frm, .int .i64 y.dst, .string y.text] 56)
          have K5 := hideIt (K4.out.keep hb5)
          have X5 := hideIt (blkK X4.out hb5)
          have P5 := hideIt (heap_alloc_new W4 (.cells #[.int .i64 y.frm, .int .i64 y.dst, .string y.text] 56))
          have HNK : Hid (rk.ownBlock ≠ some W4.heap.size) := fun e => by have := (K4.out.rn.own.lt _ e).2; omega
          clear hb5 K4 X4
          go_upto_region 16 with fail
          generalize W4.alloc (.cells #[.int .i64 y.frm, .int .i64 y.dst, .string y.text] 56) = W5 at *
          generalize W4.heap.size = ka at *
          obtain ⟨⟨x0, x1, x2, x3, x4⟩, xf, xz⟩ := five5_at X5.out
          have HTA := hideIt (rTake_any D k rm s g l rk on W5 K5.out.rn K5.out.hZ (by omega) (by omega))
          rw [HY.out, HC.out] at HTA
          unfold pkV at HTA
          go_wp2_with fail
          refine HTA.out.mono ?_
          rintro e W6 ⟨rfl, ⟨rk', hN, hx⟩, hO⟩
          dsimp only
          have P6 := hideIt (boxK K5.out P5.out (by decide) HNK.out hO)
          have K6 := hideIt (K5.out.turnK hO hN hx)
          clear hN hx hO K5 X5 P5 HTA x0 x1 x2 x3 x4 xf xz HNK
          have hb7 := below1 W6 (.cells #[.int .i64 y.frm, .int .i64 y.dst, .string y.text] 56)
          have K7 : Hid (BothAt w D (D + 1) D k n2 mb2 rm (t + 1) (W6.alloc (.cells #[.int .i64 y.frm, .int .i64 y.dst, .string y.text] 56))) := ⟨_, _, _, _, _, K6.out.keep hb7⟩
          have P7 := hideIt (blkK P6.out hb7)
          have Q7 := hideIt (heap_alloc_new W6 (.cells #[.int .i64 y.frm, .int .i64 y.dst, .string y.text] 56))
          clear hb7 K6 P6
          go_upto_region 17 with fail
          generalize W6.alloc (.cells #[.int .i64 y.frm, .int .i64 y.dst, .string y.text] 56) = WT at *
          generalize W6.heap.size = kb at *
          obtain ⟨y0, y1, y2, yf, yz⟩ := three_at P7.out
          obtain ⟨z0, z1, z2, zf, zz⟩ := three_at Q7.out
          have hqq := fun W => eql56 y.frm y.dst y.frm y.dst y.text y.text W
          have hyy := eqT_self y
          obtain ⟨yfr, ydst, ytx⟩ := y
          dsimp only at hqq y0 y1 y2 z0 z1 z2
          rw [hyy] at hqq
          clear hyy P7 Q7 HY HC
          go_upto_region 20 with fail
          clear y0 y1 y2 yf yz z0 z1 z2 zf zz hqq hlen hsb hgb
          have KT := K7
          clear K7
          obtain ⟨l5, row5, rk5, s5, g5, KS5⟩ := KT.out
          have K5 := hideIt KS5
          clear KS5 KT
          have hln := K5.out.na.len
          have HAL := hideIt (all_any D (D + 1) D rm s5 g5 l5 row5 (t + 1) WT K5.out.na (by omega))
          go_wp2_with fail
          refine HAL.out.mono ?_
          rintro e wl ⟨lv, rfl, hlo, hb⟩
          dsimp only
          have KL := hideIt (K5.out.keep hb)
          have OL := hideIt hlo
          have BL := hideIt hb
          obtain ⟨lA, lC, rfl⟩ := own_len hlo
          clear hlo hb HAL
          have HCT := hideIt (counts_any D (D + 1) D rm s5 g5 l5 row5 (t + 1) wl KL.out.na)
          go_wp2_with fail
          refine HCT.out.mono ?_
          rintro e w6 ⟨rfl, hb⟩
          dsimp only
          have K6 := hideIt (KL.out.keep hb)
          have O6 := hideIt (own_keep OL.out hb)
          have B6 := hideIt (below_via BL.out hb)
          clear hb KL OL BL HCT
          have HCT := hideIt (rCounts_is D k rm s5 g5 l5 rk5 w6 K6.out.rn)
          go_wp2_with fail
          refine HCT.out.mono ?_
          rintro e w7 ⟨rfl, hb⟩
          dsimp only
          have K7 := hideIt (K6.out.keep hb)
          have O7 := hideIt (own_keep O6.out hb)
          have B7 := hideIt (below_via B6.out hb)
          clear hb K6 O6 B6 HCT
          have HAL := hideIt (rAll_is D k rm s5 g5 l5 rk5 w7 K7.out.rn (by omega))
          go_wp2_with fail
          refine HAL.out.mono ?_
          rintro e w8 ⟨kv, rfl, hko, hb⟩
          dsimp only
          have K8 := hideIt (K7.out.keep hb)
          have O8 := hideIt (own_keep O7.out hb)
          have B8 := hideIt (below_via B7.out hb)
          have GK : Hid (SGot 3 32 pkE w8 kv l5) := own_sgot hko (by omega)
          have GL : Hid (SGot 3 32 pkE w8 (.slice lA l5.length lC) l5) := own_sgot O8.out (by omega)
          clear hko hb K7 O7 B7 HAL
          have HSM := hideIt (sameL_is _ _ l5 w8 GL.out GK.out (by omega))
          obtain ⟨kA, kC, rfl⟩ := GK.out.slice
          go_wp2_with fail
          refine HSM.out.mono ?_
          rintro e w9 ⟨rfl, hb⟩
          dsimp only
          have K9 := hideIt (K8.out.keep hb)
          have O9 := hideIt (own_keep O8.out hb)
          have B9 := hideIt (below_via B8.out hb)
          clear hb K8 O8 B8 HSM GK GL
          have HLN := hideIt (len_any D (D + 1) D rm s5 g5 l5 row5 (t + 1) w9 K9.out.na (by omega))
          go_wp2_with fail
          refine HLN.out.mono ?_
          rintro e wA ⟨rfl, hb⟩
          dsimp only
          have KA := hideIt (K9.out.keep hb)
          have OA := hideIt (own_keep O9.out hb)
          have BA := hideIt (below_via B9.out hb)
          clear hb K9 O9 B9 HLN
          have HLN := hideIt (rLen_is D k rm s5 g5 l5 rk5 wA KA.out.rn)
          go_wp2_with fail
          refine HLN.out.mono ?_
          rintro e wB ⟨rfl, rfl⟩
          dsimp only
          clear HLN KA
          go_upto_region 26 with fail
          go_loopw [23] (fun u wr => ∃ j : Nat, u = .int .i64 j ∧ j ≤ l5.length ∧ Hid ((∃ xs, wr.ownsRow WT.heap.size 56 3 (.slice lA l5.length lC) l5.length xs) ∧ Below WT.heap.size WT wr)) (fun u _ => l5.length - (RowKit.intOf u).toNat)
          case atStart => exact ⟨0, rfl, Nat.zero_le _, hideIt ⟨⟨_, OA.out⟩, BA.out⟩⟩
          case round =>
            clear OA BA
            obtain ⟨j, rfl, hj, HR⟩ := hrel
            by_cases hjl : j < l5.length
            · have hjI : (j : Int) < (l5.length : Int) := by omega
              have hj0 : (0 : Int) ≤ (j : Int) := by omega
              have hwj : IntKind.i64.wrap ((j : Int) + 1) = ((j + 1 : Nat) : Int) := by rw [IntKind.wrap_i64]; omega
              obtain ⟨⟨xs, hxs⟩, hbl⟩ := HR.out
              obtain ⟨g, off, cur, u0, u1, u2, hlA, hgB, hg, hgl, ⟨e0, e1, e2⟩, hfz⟩ := row_at3 hxs j hjl
              have HN : Hid ((∃ ys, (((wr.setCell ⟨g, off + j * 3, none⟩ (.int .i64 0)).setCell ⟨g, off + j * 3 + 1, none⟩ (.int .i64 0)).setCell ⟨g, off + j * 3 + 2, none⟩ (.string ⟨#[119, 114, 105, 116, 116, 101, 110]⟩)).ownsRow WT.heap.size 56 3 (.slice lA l5.length lC) l5.length ys) ∧ Below WT.heap.size WT (((wr.setCell ⟨g, off + j * 3, none⟩ (.int .i64 0)).setCell ⟨g, off + j * 3 + 1, none⟩ (.int .i64 0)).setCell ⟨g, off + j * 3 + 2, none⟩ (.string ⟨#[119, 114, 105, 116, 116, 101, 110]⟩))) := by
                obtain ⟨y1, z1⟩ := row_setG (j := off + j * 3) (u := .int .i64 0) hxs hg
                obtain ⟨y2, z2⟩ := row_setG (j := off + j * 3 + 1) (u := .int .i64 0) z1 (heap_set hg _ _)
                obtain ⟨y3, z3⟩ := row_setG (j := off + j * 3 + 2) (u := .string ⟨#[119, 114, 105, 116, 116, 101, 110]⟩) z2 (heap_set (heap_set hg _ _) _ _)
                exact ⟨⟨y3, z3⟩, belowSet _ (belowSet _ (belowSet _ hbl hgB) hgB) hgB⟩
              clear HR hxs hbl hg
              have f0 := hfz (off + j * 3)
              have f1 := hfz (off + j * 3 + 1)
              have f2 := hfz (off + j * 3 + 2)
              subst hlA
              clear hfz
              go_wp2
              go_roundw
              case rel => exact ⟨j + 1, by go_num, by omega, HN⟩
              case measure => simp [RowKit.intOf]; omega
            · have hjI : ¬ (j : Int) < (l5.length : Int) := by omega
              have KN : Hid (BothAt w D (D + 1) D k n2 mb2 rm (t + 1) wr) := ⟨l5, row5, rk5, s5, g5, K5.out.keep HR.out.2⟩
              clear K5 HR
              go_wp2
              go_roundw
              case rel => exact ⟨t + 1, by go_num, by omega, by omega, KN⟩
              case measure => simp [RowKit.intOf]; omega
        · have q1y : (oa == 1) = false := by simpa using a1
          by_cases a2 : oa = 2
          · subst a2
            have HD1 : Hid (∀ W, Below W3.heap.size W3 W → Calls Try.prog 23 #[.pointer (some ⟨D + 1, 0, none⟩), .int .i64 on] W fun e w' => e = .returned (.int .i64 (dblC rm l on)) ∧ Hid ((∃ row', SS w D (D + 1) D k n2 mb2 rm (t + 1) (dblL rm l on) l row' rk s g s g w') ∧ w'.heap[kx]? = some (.cells #[.int .i64 2, .int .i64 on, .int .i64 pf, .int .i64 pd, .string pt] 58 (0, 0))) ∧ w'.cell? ⟨kx, 1, none⟩ = some (.int .i64 on) ∧ kx < w'.heap.size) := fun W hW => by
              have KW := K1.out.keep hW
              have XW := blkK X1.out hW
              refine (double_any D (D + 1) D rm s g l row t on W KW.na KW.hZ KW.hn KW.hm (by omega)).mono ?_
              rintro e w' ⟨rfl, ⟨row', hN, hx⟩, hO⟩
              have Xw := boxN KW XW hO
              obtain ⟨⟨y0, y1, y2, y3, y4⟩, yf, yz⟩ := five5_at Xw
              exact ⟨rfl, ⟨⟨row', KW.turnN hO hN hx⟩, Xw⟩, y1, yz⟩
            have HD2 : Hid (∀ W, ((∃ row', SS w D (D + 1) D k n2 mb2 rm (t + 1) (dblL rm l on) l row' rk s g s g W) ∧ W.heap[kx]? = some (.cells #[.int .i64 2, .int .i64 on, .int .i64 pf, .int .i64 pd, .string pt] 58 (0, 0))) → Calls Try.prog 24 #[.pointer (some ⟨k, 0, none⟩), .int .i64 on] W fun e w' => e = .returned (.int .i64 (dblC rm l on)) ∧ Hid (BothAt w D (D + 1) D k n2 mb2 rm (t + 1) w') ∧ w'.cell? ⟨kx, 1, none⟩ = some (.int .i64 on) ∧ kx < w'.heap.size) := fun W hW => by
              obtain ⟨⟨row', KW⟩, XW⟩ := hW
              refine (rDouble_any D k rm s g l rk on W KW.rn KW.hZ (by omega)).mono ?_
              rintro e w' ⟨rfl, ⟨rk', hN, hx⟩, hO⟩
              have Xw := boxK KW XW (by decide) (row_other KW.rn.own XW (by decide)) hO
              obtain ⟨⟨y0, y1, y2, y3, y4⟩, yf, yz⟩ := five5_at Xw
              exact ⟨rfl, ⟨_, _, _, _, _, KW.turnK hO hN hx⟩, y1, yz⟩
            have HR3 := hideIt (Below.refl W3.heap.size W3)
            clear K1 X1
            generalize dblC rm l on = er at *
            generalize dblL rm l on = l5 at *
            go_upto_region 19 with fail
            go_region_held3 (fun W => W.cell? ⟨kx, 1, none⟩ = some (.int .i64 on)) (go_keep) (first | (go_at_call 23; refine (HD1.out _ (by first | exact HR3.out | exact HR3.out.drew)).mono ?_; rintro e wA ⟨rfl, HWA, e0A, egA⟩; clear HD1) | (go_at_call 24; refine (HD2.out _ HWA.out).mono ?_; rintro e wB ⟨rfl, HWB, e0B, egB⟩; clear HD2))
            clear HR3 e0B egB e0A egA HWA x0 x1 x2 x3 x4 xf xz hlen hsb hgb
            have KT := HWB
            clear HWB
            go_upto_region 20 with fail
            generalize wB = WT at *
            obtain ⟨l5, row5, rk5, s5, g5, KS5⟩ := KT.out
            have K5 := hideIt KS5
            clear KS5 KT
            have hln := K5.out.na.len
            have HAL := hideIt (all_any D (D + 1) D rm s5 g5 l5 row5 (t + 1) WT K5.out.na (by omega))
            go_wp2_with fail
            refine HAL.out.mono ?_
            rintro e wl ⟨lv, rfl, hlo, hb⟩
            dsimp only
            have KL := hideIt (K5.out.keep hb)
            have OL := hideIt hlo
            have BL := hideIt hb
            obtain ⟨lA, lC, rfl⟩ := own_len hlo
            clear hlo hb HAL
            have HCT := hideIt (counts_any D (D + 1) D rm s5 g5 l5 row5 (t + 1) wl KL.out.na)
            go_wp2_with fail
            refine HCT.out.mono ?_
            rintro e w6 ⟨rfl, hb⟩
            dsimp only
            have K6 := hideIt (KL.out.keep hb)
            have O6 := hideIt (own_keep OL.out hb)
            have B6 := hideIt (below_via BL.out hb)
            clear hb KL OL BL HCT
            have HCT := hideIt (rCounts_is D k rm s5 g5 l5 rk5 w6 K6.out.rn)
            go_wp2_with fail
            refine HCT.out.mono ?_
            rintro e w7 ⟨rfl, hb⟩
            dsimp only
            have K7 := hideIt (K6.out.keep hb)
            have O7 := hideIt (own_keep O6.out hb)
            have B7 := hideIt (below_via B6.out hb)
            clear hb K6 O6 B6 HCT
            have HAL := hideIt (rAll_is D k rm s5 g5 l5 rk5 w7 K7.out.rn (by omega))
            go_wp2_with fail
            refine HAL.out.mono ?_
            rintro e w8 ⟨kv, rfl, hko, hb⟩
            dsimp only
            have K8 := hideIt (K7.out.keep hb)
            have O8 := hideIt (own_keep O7.out hb)
            have B8 := hideIt (below_via B7.out hb)
            have GK : Hid (SGot 3 32 pkE w8 kv l5) := own_sgot hko (by omega)
            have GL : Hid (SGot 3 32 pkE w8 (.slice lA l5.length lC) l5) := own_sgot O8.out (by omega)
            clear hko hb K7 O7 B7 HAL
            have HSM := hideIt (sameL_is _ _ l5 w8 GL.out GK.out (by omega))
            obtain ⟨kA, kC, rfl⟩ := GK.out.slice
            go_wp2_with fail
            refine HSM.out.mono ?_
            rintro e w9 ⟨rfl, hb⟩
            dsimp only
            have K9 := hideIt (K8.out.keep hb)
            have O9 := hideIt (own_keep O8.out hb)
            have B9 := hideIt (below_via B8.out hb)
            clear hb K8 O8 B8 HSM GK GL
            have HLN := hideIt (len_any D (D + 1) D rm s5 g5 l5 row5 (t + 1) w9 K9.out.na (by omega))
            go_wp2_with fail
            refine HLN.out.mono ?_
            rintro e wA ⟨rfl, hb⟩
            dsimp only
            have KA := hideIt (K9.out.keep hb)
            have OA := hideIt (own_keep O9.out hb)
            have BA := hideIt (below_via B9.out hb)
            clear hb K9 O9 B9 HLN
            have HLN := hideIt (rLen_is D k rm s5 g5 l5 rk5 wA KA.out.rn)
            go_wp2_with fail
            refine HLN.out.mono ?_
            rintro e wB ⟨rfl, rfl⟩
            dsimp only
            clear HLN KA
            go_upto_region 26 with fail
            go_loopw [23] (fun u wr => ∃ j : Nat, u = .int .i64 j ∧ j ≤ l5.length ∧ Hid ((∃ xs, wr.ownsRow WT.heap.size 56 3 (.slice lA l5.length lC) l5.length xs) ∧ Below WT.heap.size WT wr)) (fun u _ => l5.length - (RowKit.intOf u).toNat)
            case atStart => exact ⟨0, rfl, Nat.zero_le _, hideIt ⟨⟨_, OA.out⟩, BA.out⟩⟩
            case round =>
              clear OA BA
              obtain ⟨j, rfl, hj, HR⟩ := hrel
              by_cases hjl : j < l5.length
              · have hjI : (j : Int) < (l5.length : Int) := by omega
                have hj0 : (0 : Int) ≤ (j : Int) := by omega
                have hwj : IntKind.i64.wrap ((j : Int) + 1) = ((j + 1 : Nat) : Int) := by rw [IntKind.wrap_i64]; omega
                obtain ⟨⟨xs, hxs⟩, hbl⟩ := HR.out
                obtain ⟨g, off, cur, u0, u1, u2, hlA, hgB, hg, hgl, ⟨e0, e1, e2⟩, hfz⟩ := row_at3 hxs j hjl
                have HN : Hid ((∃ ys, (((wr.setCell ⟨g, off + j * 3, none⟩ (.int .i64 0)).setCell ⟨g, off + j * 3 + 1, none⟩ (.int .i64 0)).setCell ⟨g, off + j * 3 + 2, none⟩ (.string ⟨#[119, 114, 105, 116, 116, 101, 110]⟩)).ownsRow WT.heap.size 56 3 (.slice lA l5.length lC) l5.length ys) ∧ Below WT.heap.size WT (((wr.setCell ⟨g, off + j * 3, none⟩ (.int .i64 0)).setCell ⟨g, off + j * 3 + 1, none⟩ (.int .i64 0)).setCell ⟨g, off + j * 3 + 2, none⟩ (.string ⟨#[119, 114, 105, 116, 116, 101, 110]⟩))) := by
                  obtain ⟨y1, z1⟩ := row_setG (j := off + j * 3) (u := .int .i64 0) hxs hg
                  obtain ⟨y2, z2⟩ := row_setG (j := off + j * 3 + 1) (u := .int .i64 0) z1 (heap_set hg _ _)
                  obtain ⟨y3, z3⟩ := row_setG (j := off + j * 3 + 2) (u := .string ⟨#[119, 114, 105, 116, 116, 101, 110]⟩) z2 (heap_set (heap_set hg _ _) _ _)
                  exact ⟨⟨y3, z3⟩, belowSet _ (belowSet _ (belowSet _ hbl hgB) hgB) hgB⟩
                clear HR hxs hbl hg
                have f0 := hfz (off + j * 3)
                have f1 := hfz (off + j * 3 + 1)
                have f2 := hfz (off + j * 3 + 2)
                subst hlA
                clear hfz
                go_wp2
                go_roundw
                case rel => exact ⟨j + 1, by go_num, by omega, HN⟩
                case measure => simp [RowKit.intOf]; omega
              · have hjI : ¬ (j : Int) < (l5.length : Int) := by omega
                have KN : Hid (BothAt w D (D + 1) D k n2 mb2 rm (t + 1) wr) := ⟨l5, row5, rk5, s5, g5, K5.out.keep HR.out.2⟩
                clear K5 HR
                go_wp2
                go_roundw
                case rel => exact ⟨t + 1, by go_num, by omega, by omega, KN⟩
                case measure => simp [RowKit.intOf]; omega
          · have q0 : (oa == 0) = false := by simpa using a0
            have q1 : (oa == 1) = false := by simpa using a1
            have q2 : (oa == 2) = false := by simpa using a2
            go_upto_region 20 with fail
            clear x0 x1 x2 x3 x4 xf xz X1
            have KT : Hid (BothAt w D (D + 1) D k n2 mb2 rm (t + 1) W3) := ⟨_, _, _, _, _, K1.out.up⟩
            clear K1
            generalize W3 = WT at *
            obtain ⟨l5, row5, rk5, s5, g5, KS5⟩ := KT.out
            have K5 := hideIt KS5
            clear KS5 KT
            have hln := K5.out.na.len
            have HAL := hideIt (all_any D (D + 1) D rm s5 g5 l5 row5 (t + 1) WT K5.out.na (by omega))
            go_wp2_with fail
            refine HAL.out.mono ?_
            rintro e wl ⟨lv, rfl, hlo, hb⟩
            dsimp only
            have KL := hideIt (K5.out.keep hb)
            have OL := hideIt hlo
            have BL := hideIt hb
            obtain ⟨lA, lC, rfl⟩ := own_len hlo
            clear hlo hb HAL
            have HCT := hideIt (counts_any D (D + 1) D rm s5 g5 l5 row5 (t + 1) wl KL.out.na)
            go_wp2_with fail
            refine HCT.out.mono ?_
            rintro e w6 ⟨rfl, hb⟩
            dsimp only
            have K6 := hideIt (KL.out.keep hb)
            have O6 := hideIt (own_keep OL.out hb)
            have B6 := hideIt (below_via BL.out hb)
            clear hb KL OL BL HCT
            have HCT := hideIt (rCounts_is D k rm s5 g5 l5 rk5 w6 K6.out.rn)
            go_wp2_with fail
            refine HCT.out.mono ?_
            rintro e w7 ⟨rfl, hb⟩
            dsimp only
            have K7 := hideIt (K6.out.keep hb)
            have O7 := hideIt (own_keep O6.out hb)
            have B7 := hideIt (below_via B6.out hb)
            clear hb K6 O6 B6 HCT
            have HAL := hideIt (rAll_is D k rm s5 g5 l5 rk5 w7 K7.out.rn (by omega))
            go_wp2_with fail
            refine HAL.out.mono ?_
            rintro e w8 ⟨kv, rfl, hko, hb⟩
            dsimp only
            have K8 := hideIt (K7.out.keep hb)
            have O8 := hideIt (own_keep O7.out hb)
            have B8 := hideIt (below_via B7.out hb)
            have GK : Hid (SGot 3 32 pkE w8 kv l5) := own_sgot hko (by omega)
            have GL : Hid (SGot 3 32 pkE w8 (.slice lA l5.length lC) l5) := own_sgot O8.out (by omega)
            clear hko hb K7 O7 B7 HAL
            have HSM := hideIt (sameL_is _ _ l5 w8 GL.out GK.out (by omega))
            obtain ⟨kA, kC, rfl⟩ := GK.out.slice
            go_wp2_with fail
            refine HSM.out.mono ?_
            rintro e w9 ⟨rfl, hb⟩
            dsimp only
            have K9 := hideIt (K8.out.keep hb)
            have O9 := hideIt (own_keep O8.out hb)
            have B9 := hideIt (below_via B8.out hb)
            clear hb K8 O8 B8 HSM GK GL
            have HLN := hideIt (len_any D (D + 1) D rm s5 g5 l5 row5 (t + 1) w9 K9.out.na (by omega))
            go_wp2_with fail
            refine HLN.out.mono ?_
            rintro e wA ⟨rfl, hb⟩
            dsimp only
            have KA := hideIt (K9.out.keep hb)
            have OA := hideIt (own_keep O9.out hb)
            have BA := hideIt (below_via B9.out hb)
            clear hb K9 O9 B9 HLN
            have HLN := hideIt (rLen_is D k rm s5 g5 l5 rk5 wA KA.out.rn)
            go_wp2_with fail
            refine HLN.out.mono ?_
            rintro e wB ⟨rfl, rfl⟩
            dsimp only
            clear HLN KA
            go_upto_region 26 with fail
            go_loopw [23] (fun u wr => ∃ j : Nat, u = .int .i64 j ∧ j ≤ l5.length ∧ Hid ((∃ xs, wr.ownsRow WT.heap.size 56 3 (.slice lA l5.length lC) l5.length xs) ∧ Below WT.heap.size WT wr)) (fun u _ => l5.length - (RowKit.intOf u).toNat)
            case atStart => exact ⟨0, rfl, Nat.zero_le _, hideIt ⟨⟨_, OA.out⟩, BA.out⟩⟩
            case round =>
              clear OA BA
              obtain ⟨j, rfl, hj, HR⟩ := hrel
              by_cases hjl : j < l5.length
              · have hjI : (j : Int) < (l5.length : Int) := by omega
                have hj0 : (0 : Int) ≤ (j : Int) := by omega
                have hwj : IntKind.i64.wrap ((j : Int) + 1) = ((j + 1 : Nat) : Int) := by rw [IntKind.wrap_i64]; omega
                obtain ⟨⟨xs, hxs⟩, hbl⟩ := HR.out
                obtain ⟨g, off, cur, u0, u1, u2, hlA, hgB, hg, hgl, ⟨e0, e1, e2⟩, hfz⟩ := row_at3 hxs j hjl
                have HN : Hid ((∃ ys, (((wr.setCell ⟨g, off + j * 3, none⟩ (.int .i64 0)).setCell ⟨g, off + j * 3 + 1, none⟩ (.int .i64 0)).setCell ⟨g, off + j * 3 + 2, none⟩ (.string ⟨#[119, 114, 105, 116, 116, 101, 110]⟩)).ownsRow WT.heap.size 56 3 (.slice lA l5.length lC) l5.length ys) ∧ Below WT.heap.size WT (((wr.setCell ⟨g, off + j * 3, none⟩ (.int .i64 0)).setCell ⟨g, off + j * 3 + 1, none⟩ (.int .i64 0)).setCell ⟨g, off + j * 3 + 2, none⟩ (.string ⟨#[119, 114, 105, 116, 116, 101, 110]⟩))) := by
                  obtain ⟨y1, z1⟩ := row_setG (j := off + j * 3) (u := .int .i64 0) hxs hg
                  obtain ⟨y2, z2⟩ := row_setG (j := off + j * 3 + 1) (u := .int .i64 0) z1 (heap_set hg _ _)
                  obtain ⟨y3, z3⟩ := row_setG (j := off + j * 3 + 2) (u := .string ⟨#[119, 114, 105, 116, 116, 101, 110]⟩) z2 (heap_set (heap_set hg _ _) _ _)
                  exact ⟨⟨y3, z3⟩, belowSet _ (belowSet _ (belowSet _ hbl hgB) hgB) hgB⟩
                clear HR hxs hbl hg
                have f0 := hfz (off + j * 3)
                have f1 := hfz (off + j * 3 + 1)
                have f2 := hfz (off + j * 3 + 2)
                subst hlA
                clear hfz
                go_wp2
                go_roundw
                case rel => exact ⟨j + 1, by go_num, by omega, HN⟩
                case measure => simp [RowKit.intOf]; omega
              · have hjI : ¬ (j : Int) < (l5.length : Int) := by omega
                have KN : Hid (BothAt w D (D + 1) D k n2 mb2 rm (t + 1) wr) := ⟨l5, row5, rk5, s5, g5, K5.out.keep HR.out.2⟩
                clear K5 HR
                go_wp2
                go_roundw
                case rel => exact ⟨t + 1, by go_num, by omega, by omega, KN⟩
                case measure => simp [RowKit.intOf]; omega
    · have HNB := hideIt HK.out.nb
      have B9 := hideIt HK.out.bel
      have HLN := hideIt (len_any D n2 mb2 3 0 0 [] (.slice none 0 0) 0 wr HK.out.nb (by omega))
      clear HK HOP HNB
      by_cases hlt1 : t < ops.length
      · have hltI : (t : Int) < (ops.length : Int) := by omega
        have hlt80 : ¬ (t : Int) < 80 := by omega
        go_wp2_with fail
        refine HLN.out.mono ?_
        rintro e w7 ⟨rfl, hb⟩
        dsimp only
        have B10 := hideIt (below_via B9.out hb)
        clear hb B9 HLN
        go_wp2
        go_ret
        exact ⟨rfl, B10.out⟩
      · have hltI : ¬ (t : Int) < (ops.length : Int) := by omega
        go_wp2_with fail
        refine HLN.out.mono ?_
        rintro e w7 ⟨rfl, hb⟩
        dsimp only
        have B10 := hideIt (below_via B9.out hb)
        clear hb B9 HLN
        go_wp2
        go_ret
        exact ⟨rfl, B10.out⟩
end Go.Proofs.Ytagfolckodpioaa.K2
namespace Go.Proofs.Ytagfolckodpioaa.K2
open Go.RowKit Go.Maps Go.Proofs.Ytagfolckodpioaa
set_option linter.all false
set_option maxHeartbeats 8000000 in
set_option maxRecDepth 100000 in
theorem scripts_no (rm : Int) (sa : Option Addr) (sc : Nat) (ops : List OpV) (w : World) (hr : wiB rm 1 3000 = false) : Calls Try.prog 6 #[.int .i64 rm, .slice sa ops.length sc] w fun e w' => e = .returned (.bool true) ∧ Below w.heap.size w w' := by
  have HLV := hideIt (fun W => live_is W)
  have HN1 := hideIt (newNet_no rm w hr)
  have HN2 := hideIt (fun W => rNew_no rm W hr)
  have HN3 := hideIt (fun W => newNet_yes 3 W (by decide))
  clear hr
  go_enter Try.func6, Try.ntmps6
  go_wp2_with fail
  refine HN1.out.mono ?_
  rintro e w1 ⟨rfl, rfl⟩
  dsimp only
  go_wp2_with fail
  refine (HN2.out _).mono ?_
  rintro e w2 ⟨rfl, rfl⟩
  dsimp only
  go_wp2_with fail
  refine (HN3.out _).mono ?_
  rintro e w3 ⟨rfl, h3⟩
  dsimp only
  have S3 : Hid (NF w2.heap.size (w2.heap.size + 1) w2.heap.size 3 0 0 [] (.slice none 0 0) 0 w3 ∧ Below w2.heap.size w2 w3) := by
    rw [h3]
    exact ⟨⟨⟨0, f0, ⟨(two_heap w2 _ _).2.1, own_nil _ _, (PM.made w2).keep (below1 _ _)⟩, FI.start, Nat.le_refl _⟩, Nat.le_refl _, by simp, by simp⟩, below2 w2 _ _⟩
  clear HN1 HN2 HN3 h3
  go_wp2_with fail
  refine (HLV.out _).mono ?_
  rintro e w4 ⟨rfl, hb⟩
  dsimp only
  have S4 : Hid (NF w2.heap.size (w2.heap.size + 1) w2.heap.size 3 0 0 [] (.slice none 0 0) 0 w4 ∧ Below w2.heap.size w2 w4) := ⟨S3.out.1.keep hb, below_via S3.out.2 hb⟩
  clear hb S3 HLV
  have HLN := hideIt (len_any w2.heap.size (w2.heap.size + 1) w2.heap.size 3 0 0 [] (.slice none 0 0) 0 w4 S4.out.1 (by omega))
  have B4 := hideIt S4.out.2
  clear S4
  go_upto_region 7 with fail
  go_loopw [11] (fun u wr => u = .int .i64 0 ∧ wr = w4) (fun _ _ => 0)
  case atStart => exact ⟨rfl, rfl⟩
  case round =>
    obtain ⟨rfl, rfl⟩ := hrel
    by_cases hlt1 : 0 < ops.length
    · have hltI : (0 : Int) < (ops.length : Int) := by omega
      go_wp2_with fail
      refine HLN.out.mono ?_
      rintro e w7 ⟨rfl, hb⟩
      dsimp only
      have B10 := hideIt (below_via B4.out hb)
      clear hb B4 HLN
      go_wp2
      go_ret
      exact ⟨rfl, B10.out⟩
    · have hltI : ¬ (0 : Int) < (ops.length : Int) := by omega
      go_wp2_with fail
      refine HLN.out.mono ?_
      rintro e w7 ⟨rfl, hb⟩
      dsimp only
      have B10 := hideIt (below_via B4.out hb)
      clear hb B4 HLN
      go_wp2
      go_ret
      exact ⟨rfl, B10.out⟩
theorem scripts_walk (rm : Int) (sa : Option Addr) (sc : Nat) (ops : List OpV) (w : World) (hO : OpsAt w sa ops) (hl : ops.length ≤ 9223372036854775807) : Calls Try.prog 6 #[.int .i64 rm, .slice sa ops.length sc] w fun e w' => e = .returned (.bool true) ∧ Below w.heap.size w w' := by
  cases hr : wiB rm 1 3000 with
  | true => exact scripts_yes rm sa sc ops w hO hl hr
  | false => exact scripts_no rm sa sc ops w hr
end Go.Proofs.Ytagfolckodpioaa.K2
