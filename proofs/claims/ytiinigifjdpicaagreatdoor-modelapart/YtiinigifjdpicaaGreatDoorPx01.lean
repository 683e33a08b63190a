/- Texts of my own, laid together. -/
import Derived.Test.YtiinigifjdpicaaGreatDoorPx00
import Derived.Deep.RegionHeld3
import Derived.Shelf.Abstract
import Derived.Lib.AppendZeros
import Derived.Laws.CopyRow
import Derived.Laws.Externs
import Derived.Lib.AppendZerosOnto
import Derived.Lib.Overlaps
import Derived.Lib.SliceRun
import Derived.Shelf.RegionOpenPlain
import Derived.Deep.RegionLaw
import Derived.Deep.CutBlock
import Derived.Deep.CutRange
namespace Go.Proofs.YtiinigifjdpicaaGreatDoor
open Go.RowKit
set_option linter.all false
def srtB {α : Type} (r : α → α → Bool) : List α → Bool
 | [] => true
 | [_] => true
 | a :: b :: t => r a b && srtB r (b :: t)
theorem srtB_at {α : Type} (r : α → α → Bool) (l : List α) (u t : Nat) (hu : t = u + 1) (h : t < l.length) : srtB r (l.drop u) = (r (l[u]'(by omega)) l[t] && srtB r (l.drop t)) := by
 subst hu;rw [List.drop_eq_getElem_cons (by omega : u < l.length), List.drop_eq_getElem_cons h]
 rfl
theorem srtB_end {α : Type} (r : α → α → Bool) (l : List α) (u : Nat) (h : l.length ≤ u + 1) : srtB r (l.drop u) = true := by
 have : (l.drop u).length ≤ 1 := by rw [List.length_drop]; omega
 match hd : l.drop u, this with
 | [], _ => rfl
 | [x], _ => rfl
 | _ :: _ :: _, h => simp at h
def ordU (o : OrdV) : Value := .agg (ordE o).toArray
def oweU (o : OweV) : Value := .agg (oweE o).toArray
def intU (x : Int) : Value := .int .i64 x
abbrev Ints (w : World) (v : Value) (l : List Int) : Prop := SGot 1 8 (fun x => [Value.int .i64 x]) w v l
theorem SGot.ints {w : World} {v : Value} {l : List Int} (h : Ints w v l) : ∃ a c, v = .slice a l.length c ∧ l.length * 8 ≤ 140737488355328 ∧ ∀ i (h : i < l.length), ∃ b off, a = some ⟨b, off, none⟩ ∧ b < w.heap.size ∧ w.cell? ⟨b, off + i, none⟩ = some (.int .i64 l[i]) := by
 obtain ⟨h8, a, c, rfl, _, hr⟩ := h;refine ⟨a, c, rfl, h8, fun i hi => ?_⟩;obtain ⟨b, off, rfl, hlt, hc⟩ := hr (by omega);have g := celC_get (enc := fun x : Int => [Value.int .i64 x]) (k := 1) (fun _ => rfl) l i hi 0 (by omega);refine ⟨b, off, rfl, hlt, (hc i (by omega)).trans ?_⟩;rw [Nat.mul_one, Nat.add_zero] at g;exact g
set_option maxHeartbeats 4000000 in
set_option maxRecDepth 100000 in
theorem inOrdO_is (g : Nat) (lb : Array Value) (eg : ∀ args w, (callFunc g args).run Tryz.prog w = .ok (.enter g args) w) (v : Value) (l : List OrdV) (r : OrdV → OrdV → Bool) (w : World) (h : Ords w v l) (hp : CmpB g lb ordU r w) :
  Calls Tryz.prog 91 #[v, .func (.func g) #[] lb] w fun e w' => e = .returned (.bool (srtB r l)) ∧ Below w.heap.size w w' := by
 obtain ⟨a, c, rfl, h8, hr⟩ := h.ords;have HH := hideIt hr;have HP := hideIt hp;clear hr h hp
 go_enter Tryz.func91, Tryz.ntmps91
 go_wp2
 go_loopw [5] (fun v wr => ∃ t : Nat, v = .int .i64 t ∧ 1 ≤ t ∧ Hid ((t ≤ l.length ∨ t = 1) ∧ srtB r l = srtB r (l.drop (t - 1)) ∧ Below w.heap.size w wr)) (fun v _ => l.length - (intOf v).toNat)
 case atStart => exact ⟨1, rfl, Nat.le_refl _, hideIt ⟨.inr rfl, by simp, Below.refl _ _⟩⟩
 case round =>
  obtain ⟨t, rfl, ht1, HR⟩ := hrel
  by_cases hlt : t < l.length
  ·have hltI : (t : Int) < (l.length : Int) := by omega
   have ht0 : (0 : Int) ≤ (t : Int) := by omega
   obtain ⟨u, hu⟩ : ∃ u, t = u + 1 := ⟨t - 1, by omega⟩;have hu0 : (0 : Int) ≤ (u : Int) := by omega
   have hu1 : (u : Int) < (l.length : Int) := by omega
   have hw : IntKind.i64.wrap ((t : Int) + 1) = ((t + 1 : Nat) : Int) := by rw [IntKind.wrap_i64]; omega
   have hw2 : IntKind.i64.wrap ((t : Int) - 1) = (u : Int) := by rw [IntKind.wrap_i64]; omega
   obtain ⟨b, off, rfl, hbl, q0, q1, q2, q3⟩ := HH.out t hlt;obtain ⟨b', off', e, -, p0, p1, p2, p3⟩ := HH.out u (by omega);simp only [Option.some.injEq, Addr.mk.injEq, and_true] at e;obtain ⟨rfl, rfl⟩ := e;have hBw := HR.out.2.2;have hblr : b < wr.heap.size := Nat.lt_of_lt_of_le hbl hBw.size;have HS := hideIt (srtB_at r l u t hu hlt);have HU := hideIt hu;have HF : Hid (srtB r l = (r (l[u]'(by omega)) l[t] && srtB r (l.drop t))) := by
    show _ = _
    rw [HR.out.2.1, ← HS.out]
    congr 2
    omega
   generalize l[u]'(by omega) = en at *;generalize l[t] = em at *;have HK : Hid (∀ W, Below w.heap.size w W → W.cell? ⟨b, off + t * 4, none⟩ = some (.int .i64 em.id) ∧ W.cell? ⟨b, off + t * 4 + 1, none⟩ = some (.int .i64 em.acc) ∧ W.cell? ⟨b, off + t * 4 + 2, none⟩ = some (.int .i64 em.price) ∧ W.cell? ⟨b, off + t * 4 + 3, none⟩ = some (.int .i64 em.left) ∧ W.cell? ⟨b, off + u * 4, none⟩ = some (.int .i64 en.id) ∧ W.cell? ⟨b, off + u * 4 + 1, none⟩ = some (.int .i64 en.acc) ∧ W.cell? ⟨b, off + u * 4 + 2, none⟩ = some (.int .i64 en.price) ∧ W.cell? ⟨b, off + u * 4 + 3, none⟩ = some (.int .i64 en.left)) := fun W hW => ⟨(hW.cell (p := ⟨b, off + t * 4, none⟩) hbl).trans q0, (hW.cell (p := ⟨b, off + t * 4 + 1, none⟩) hbl).trans q1, (hW.cell (p := ⟨b, off + t * 4 + 2, none⟩) hbl).trans q2, (hW.cell (p := ⟨b, off + t * 4 + 3, none⟩) hbl).trans q3, (hW.cell (p := ⟨b, off + u * 4, none⟩) hbl).trans p0, (hW.cell (p := ⟨b, off + u * 4 + 1, none⟩) hbl).trans p1, (hW.cell (p := ⟨b, off + u * 4 + 2, none⟩) hbl).trans p2, (hW.cell (p := ⟨b, off + u * 4 + 3, none⟩) hbl).trans p3⟩
   have HC : Hid (∀ W, Below w.heap.size w W → Calls Tryz.prog g (#[ordU en, ordU em] ++ lb) W fun e w' => e = .returned (.bool (r en em)) ∧ Below w.heap.size w w' ∧ ((fun W => W.cell? ⟨b, off + t * 4, none⟩ = some (.int .i64 em.id) ∧ W.cell? ⟨b, off + t * 4 + 1, none⟩ = some (.int .i64 em.acc) ∧ W.cell? ⟨b, off + t * 4 + 2, none⟩ = some (.int .i64 em.price) ∧ W.cell? ⟨b, off + t * 4 + 3, none⟩ = some (.int .i64 em.left) ∧ W.cell? ⟨b, off + u * 4, none⟩ = some (.int .i64 en.id) ∧ W.cell? ⟨b, off + u * 4 + 1, none⟩ = some (.int .i64 en.acc) ∧ W.cell? ⟨b, off + u * 4 + 2, none⟩ = some (.int .i64 en.price) ∧ W.cell? ⟨b, off + u * 4 + 3, none⟩ = some (.int .i64 en.left)) w')) := fun W hW => (HP.out W en em hW).mono (fun e w' hx => ⟨hx.1, hx.2, HK.out w' hx.2⟩)
   clear q0 q1 q2 q3 p0 p1 p2 p3 HP
   (try dsimp only at HC)
   unfold ordU ordE at HC
   (try dsimp only at HC)
   have HBW := hideIt HR.out.2.2;have HT := hideIt ht1;have c9 := HK.out wr HBW.out;clear HH hBw hbl HR HS hu ht1
   go_upto_region 4 with fail
   go_cut [22, 23] from 12 to 23 (fun u v wx => u = .bool (r en em) ∧ v = .bool (!(r en em)) ∧ Below w.heap.size w wx)
   case first =>
    obtain ⟨c0, c1, c2, c3, c4, c5, c6, c7⟩ := c9
    go_region_held3 (fun W => W.cell? ⟨b, off + t * 4, none⟩ = some (.int .i64 em.id) ∧ W.cell? ⟨b, off + t * 4 + 1, none⟩ = some (.int .i64 em.acc) ∧ W.cell? ⟨b, off + t * 4 + 2, none⟩ = some (.int .i64 em.price) ∧ W.cell? ⟨b, off + t * 4 + 3, none⟩ = some (.int .i64 em.left) ∧ W.cell? ⟨b, off + u * 4, none⟩ = some (.int .i64 en.id) ∧ W.cell? ⟨b, off + u * 4 + 1, none⟩ = some (.int .i64 en.acc) ∧ W.cell? ⟨b, off + u * 4 + 2, none⟩ = some (.int .i64 en.price) ∧ W.cell? ⟨b, off + u * 4 + 3, none⟩ = some (.int .i64 en.left)) (go_keep) (first | (refine (HC.out _ (by first | exact HBW.out | exact HBW.out.drew)).mono ?_; rintro e w5 ⟨rfl, hst, j0, j1, j2, j3, j4, j5, j6, j7⟩))
    all_goals go_wp2_with fail
    all_goals go_meet
    all_goals exact ⟨rfl, rfl, hst⟩
   case rest =>
   obtain ⟨rfl, rfl, hb⟩ := hcut;have HB := hideIt hb;clear c9 hb HC HK HBW;cases hq : r en em
   ·rw [hq] at HF;go_wp2;go_ret
    exact ⟨by rw [HF.out]; rfl, HB.out⟩
   ·rw [hq] at HF;go_wp2
    go_roundw
    case rel => exact ⟨t + 1, by go_num, by have := HT.out; omega, hideIt ⟨.inl (by omega), by simpa using HF.out, HB.out⟩⟩
    case measure => simp [intOf]; omega
  ·have hltI : ¬ (t : Int) < (l.length : Int) := by omega
   have HF : Hid (srtB r l = true) := by
    show _ = _
    rw [HR.out.2.1];exact srtB_end r l (t - 1) (by omega)
   have HB := hideIt HR.out.2.2;clear HR HP HH;go_wp2;go_ret
   exact ⟨by rw [HF.out]; rfl, HB.out⟩
set_option maxHeartbeats 4000000 in
set_option maxRecDepth 100000 in
theorem inOrdW_is (g : Nat) (lb : Array Value) (eg : ∀ args w, (callFunc g args).run Tryz.prog w = .ok (.enter g args) w) (v : Value) (l : List OweV) (r : OweV → OweV → Bool) (w : World) (h : Owes w v l) (hp : CmpB g lb oweU r w) :
  Calls Tryz.prog 98 #[v, .func (.func g) #[] lb] w fun e w' => e = .returned (.bool (srtB r l)) ∧ Below w.heap.size w w' := by
 obtain ⟨a, c, rfl, h8, hr⟩ := h.owes;have HH := hideIt hr;have HP := hideIt hp;clear hr h hp
 go_enter Tryz.func98, Tryz.ntmps98
 go_wp2
 go_loopw [5] (fun v wr => ∃ t : Nat, v = .int .i64 t ∧ 1 ≤ t ∧ Hid ((t ≤ l.length ∨ t = 1) ∧ srtB r l = srtB r (l.drop (t - 1)) ∧ Below w.heap.size w wr)) (fun v _ => l.length - (intOf v).toNat)
 case atStart => exact ⟨1, rfl, Nat.le_refl _, hideIt ⟨.inr rfl, by simp, Below.refl _ _⟩⟩
 case round =>
  obtain ⟨t, rfl, ht1, HR⟩ := hrel
  by_cases hlt : t < l.length
  ·have hltI : (t : Int) < (l.length : Int) := by omega
   have ht0 : (0 : Int) ≤ (t : Int) := by omega
   obtain ⟨u, hu⟩ : ∃ u, t = u + 1 := ⟨t - 1, by omega⟩;have hu0 : (0 : Int) ≤ (u : Int) := by omega
   have hu1 : (u : Int) < (l.length : Int) := by omega
   have hw : IntKind.i64.wrap ((t : Int) + 1) = ((t + 1 : Nat) : Int) := by rw [IntKind.wrap_i64]; omega
   have hw2 : IntKind.i64.wrap ((t : Int) - 1) = (u : Int) := by rw [IntKind.wrap_i64]; omega
   obtain ⟨b, off, rfl, hbl, q0, q1, q2⟩ := HH.out t hlt;obtain ⟨b', off', e, -, p0, p1, p2⟩ := HH.out u (by omega);simp only [Option.some.injEq, Addr.mk.injEq, and_true] at e;obtain ⟨rfl, rfl⟩ := e;have hBw := HR.out.2.2;have hblr : b < wr.heap.size := Nat.lt_of_lt_of_le hbl hBw.size;have HS := hideIt (srtB_at r l u t hu hlt);have HU := hideIt hu;have HF : Hid (srtB r l = (r (l[u]'(by omega)) l[t] && srtB r (l.drop t))) := by
    show _ = _
    rw [HR.out.2.1, ← HS.out]
    congr 2
    omega
   generalize l[u]'(by omega) = en at *;generalize l[t] = em at *;have HK : Hid (∀ W, Below w.heap.size w W → W.cell? ⟨b, off + t * 3, none⟩ = some (.int .i64 em.acc) ∧ W.cell? ⟨b, off + t * 3 + 1, none⟩ = some (.int .i64 em.asset) ∧ W.cell? ⟨b, off + t * 3 + 2, none⟩ = some (.int .i64 em.n) ∧ W.cell? ⟨b, off + u * 3, none⟩ = some (.int .i64 en.acc) ∧ W.cell? ⟨b, off + u * 3 + 1, none⟩ = some (.int .i64 en.asset) ∧ W.cell? ⟨b, off + u * 3 + 2, none⟩ = some (.int .i64 en.n)) := fun W hW => ⟨(hW.cell (p := ⟨b, off + t * 3, none⟩) hbl).trans q0, (hW.cell (p := ⟨b, off + t * 3 + 1, none⟩) hbl).trans q1, (hW.cell (p := ⟨b, off + t * 3 + 2, none⟩) hbl).trans q2, (hW.cell (p := ⟨b, off + u * 3, none⟩) hbl).trans p0, (hW.cell (p := ⟨b, off + u * 3 + 1, none⟩) hbl).trans p1, (hW.cell (p := ⟨b, off + u * 3 + 2, none⟩) hbl).trans p2⟩
   have HC : Hid (∀ W, Below w.heap.size w W → Calls Tryz.prog g (#[oweU en, oweU em] ++ lb) W fun e w' => e = .returned (.bool (r en em)) ∧ Below w.heap.size w w' ∧ ((fun W => W.cell? ⟨b, off + t * 3, none⟩ = some (.int .i64 em.acc) ∧ W.cell? ⟨b, off + t * 3 + 1, none⟩ = some (.int .i64 em.asset) ∧ W.cell? ⟨b, off + t * 3 + 2, none⟩ = some (.int .i64 em.n) ∧ W.cell? ⟨b, off + u * 3, none⟩ = some (.int .i64 en.acc) ∧ W.cell? ⟨b, off + u * 3 + 1, none⟩ = some (.int .i64 en.asset) ∧ W.cell? ⟨b, off + u * 3 + 2, none⟩ = some (.int .i64 en.n)) w')) := fun W hW => (HP.out W en em hW).mono (fun e w' hx => ⟨hx.1, hx.2, HK.out w' hx.2⟩)
   clear q0 q1 q2 p0 p1 p2 HP
   (try dsimp only at HC)
   unfold oweU oweE at HC
   (try dsimp only at HC)
   have HBW := hideIt HR.out.2.2;have HT := hideIt ht1;have c9 := HK.out wr HBW.out;clear HH hBw hbl HR HS hu ht1
   go_upto_region 4 with fail
   go_cut [22, 23] from 12 to 23 (fun u v wx => u = .bool (r en em) ∧ v = .bool (!(r en em)) ∧ Below w.heap.size w wx)
   case first =>
    obtain ⟨c0, c1, c2, c3, c4, c5⟩ := c9
    go_region_held3 (fun W => W.cell? ⟨b, off + t * 3, none⟩ = some (.int .i64 em.acc) ∧ W.cell? ⟨b, off + t * 3 + 1, none⟩ = some (.int .i64 em.asset) ∧ W.cell? ⟨b, off + t * 3 + 2, none⟩ = some (.int .i64 em.n) ∧ W.cell? ⟨b, off + u * 3, none⟩ = some (.int .i64 en.acc) ∧ W.cell? ⟨b, off + u * 3 + 1, none⟩ = some (.int .i64 en.asset) ∧ W.cell? ⟨b, off + u * 3 + 2, none⟩ = some (.int .i64 en.n)) (go_keep) (first | (refine (HC.out _ (by first | exact HBW.out | exact HBW.out.drew)).mono ?_; rintro e w5 ⟨rfl, hst, j0, j1, j2, j3, j4, j5⟩))
    all_goals go_wp2_with fail
    all_goals go_meet
    all_goals exact ⟨rfl, rfl, hst⟩
   case rest =>
   obtain ⟨rfl, rfl, hb⟩ := hcut;have HB := hideIt hb;clear c9 hb HC HK HBW;cases hq : r en em
   ·rw [hq] at HF;go_wp2;go_ret
    exact ⟨by rw [HF.out]; rfl, HB.out⟩
   ·rw [hq] at HF;go_wp2
    go_roundw
    case rel => exact ⟨t + 1, by go_num, by have := HT.out; omega, hideIt ⟨.inl (by omega), by simpa using HF.out, HB.out⟩⟩
    case measure => simp [intOf]; omega
  ·have hltI : ¬ (t : Int) < (l.length : Int) := by omega
   have HF : Hid (srtB r l = true) := by
    show _ = _
    rw [HR.out.2.1];exact srtB_end r l (t - 1) (by omega)
   have HB := hideIt HR.out.2.2;clear HR HP HH;go_wp2;go_ret
   exact ⟨by rw [HF.out]; rfl, HB.out⟩
set_option maxHeartbeats 4000000 in
set_option maxRecDepth 100000 in
theorem inOrdI_is (g : Nat) (lb : Array Value) (eg : ∀ args w, (callFunc g args).run Tryz.prog w = .ok (.enter g args) w) (v : Value) (l : List Int) (r : Int → Int → Bool) (w : World) (h : Ints w v l) (hp : CmpB g lb intU r w) :
  Calls Tryz.prog 94 #[v, .func (.func g) #[] lb] w fun e w' => e = .returned (.bool (srtB r l)) ∧ Below w.heap.size w w' := by
 obtain ⟨a, c, rfl, h8, hr⟩ := h.ints;have HH := hideIt hr;have HP := hideIt hp;clear hr h hp
 go_enter Tryz.func94, Tryz.ntmps94
 go_wp2
 go_loopw [5] (fun v wr => ∃ t : Nat, v = .int .i64 t ∧ 1 ≤ t ∧ Hid ((t ≤ l.length ∨ t = 1) ∧ srtB r l = srtB r (l.drop (t - 1)) ∧ Below w.heap.size w wr)) (fun v _ => l.length - (intOf v).toNat)
 case atStart => exact ⟨1, rfl, Nat.le_refl _, hideIt ⟨.inr rfl, by simp, Below.refl _ _⟩⟩
 case round =>
  obtain ⟨t, rfl, ht1, HR⟩ := hrel
  by_cases hlt : t < l.length
  ·have hltI : (t : Int) < (l.length : Int) := by omega
   have ht0 : (0 : Int) ≤ (t : Int) := by omega
   obtain ⟨u, hu⟩ : ∃ u, t = u + 1 := ⟨t - 1, by omega⟩;have hu0 : (0 : Int) ≤ (u : Int) := by omega
   have hu1 : (u : Int) < (l.length : Int) := by omega
   have hw : IntKind.i64.wrap ((t : Int) + 1) = ((t + 1 : Nat) : Int) := by rw [IntKind.wrap_i64]; omega
   have hw2 : IntKind.i64.wrap ((t : Int) - 1) = (u : Int) := by rw [IntKind.wrap_i64]; omega
   obtain ⟨b, off, rfl, hbl, q0⟩ := HH.out t hlt;obtain ⟨b', off', e, -, p0⟩ := HH.out u (by omega);simp only [Option.some.injEq, Addr.mk.injEq, and_true] at e;obtain ⟨rfl, rfl⟩ := e;have hBw := HR.out.2.2;have hblr : b < wr.heap.size := Nat.lt_of_lt_of_le hbl hBw.size;have HS := hideIt (srtB_at r l u t hu hlt);have HU := hideIt hu;have HF : Hid (srtB r l = (r (l[u]'(by omega)) l[t] && srtB r (l.drop t))) := by
    show _ = _
    rw [HR.out.2.1, ← HS.out]
    congr 2
    omega
   generalize l[u]'(by omega) = en at *;generalize l[t] = em at *;have HK : Hid (∀ W, Below w.heap.size w W → W.cell? ⟨b, off + t, none⟩ = some (.int .i64 em) ∧ W.cell? ⟨b, off + u, none⟩ = some (.int .i64 en)) := fun W hW => ⟨(hW.cell (p := ⟨b, off + t, none⟩) hbl).trans q0, (hW.cell (p := ⟨b, off + u, none⟩) hbl).trans p0⟩
   have HC : Hid (∀ W, Below w.heap.size w W → Calls Tryz.prog g (#[intU en, intU em] ++ lb) W fun e w' => e = .returned (.bool (r en em)) ∧ Below w.heap.size w w' ∧ ((fun W => W.cell? ⟨b, off + t, none⟩ = some (.int .i64 em) ∧ W.cell? ⟨b, off + u, none⟩ = some (.int .i64 en)) w')) := fun W hW => (HP.out W en em hW).mono (fun e w' hx => ⟨hx.1, hx.2, HK.out w' hx.2⟩)
   clear q0 p0 HP
   (try dsimp only at HC)
   unfold intU at HC
   (try dsimp only at HC)
   have HBW := hideIt HR.out.2.2;have HT := hideIt ht1;have c9 := HK.out wr HBW.out;clear HH hBw hbl HR HS hu ht1
   go_upto_region 4 with fail
   go_cut [22, 23] from 12 to 23 (fun u v wx => u = .bool (r en em) ∧ v = .bool (!(r en em)) ∧ Below w.heap.size w wx)
   case first =>
    obtain ⟨c0, c1⟩ := c9
    go_region_held3 (fun W => W.cell? ⟨b, off + t, none⟩ = some (.int .i64 em) ∧ W.cell? ⟨b, off + u, none⟩ = some (.int .i64 en)) (go_keep) (first | (refine (HC.out _ (by first | exact HBW.out | exact HBW.out.drew)).mono ?_; rintro e w5 ⟨rfl, hst, j0, j1⟩))
    all_goals go_wp2_with fail
    all_goals go_meet
    all_goals exact ⟨rfl, rfl, hst⟩
   case rest =>
   obtain ⟨rfl, rfl, hb⟩ := hcut;have HB := hideIt hb;clear c9 hb HC HK HBW;cases hq : r en em
   ·rw [hq] at HF;go_wp2;go_ret
    exact ⟨by rw [HF.out]; rfl, HB.out⟩
   ·rw [hq] at HF;go_wp2
    go_roundw
    case rel => exact ⟨t + 1, by go_num, by have := HT.out; omega, hideIt ⟨.inl (by omega), by simpa using HF.out, HB.out⟩⟩
    case measure => simp [intOf]; omega
  ·have hltI : ¬ (t : Int) < (l.length : Int) := by omega
   have HF : Hid (srtB r l = true) := by
    show _ = _
    rw [HR.out.2.1];exact srtB_end r l (t - 1) (by omega)
   have HB := hideIt HR.out.2.2;clear HR HP HH;go_wp2;go_ret
   exact ⟨by rw [HF.out]; rfl, HB.out⟩
theorem eg49 : ∀ args w, (callFunc 128 args).run Tryz.prog w = .ok (.enter 128 args) w := enters_of Tryz.func128 (by kernel_rfl) rfl
theorem eg54 : ∀ args w, (callFunc 86 args).run Tryz.prog w = .ok (.enter 86 args) w := enters_of Tryz.func86 (by kernel_rfl) rfl
theorem eg60 : ∀ args w, (callFunc 96 args).run Tryz.prog w = .ok (.enter 96 args) w := enters_of Tryz.func96 (by kernel_rfl) rfl
theorem eg62 : ∀ args w, (callFunc 99 args).run Tryz.prog w = .ok (.enter 99 args) w := enters_of Tryz.func99 (by kernel_rfl) rfl
theorem eg59 : ∀ args w, (callFunc 95 args).run Tryz.prog w = .ok (.enter 95 args) w := enters_of Tryz.func95 (by kernel_rfl) rfl
def sideB (s nx : Int) (l : List OrdV) : Bool := decide (l.length ≤ 40) && (!(l.any (strB nx)) && srtB (ahB s) l)
theorem pred54 {nx : Int} (hn : 1 ≤ nx ∧ nx ≤ 1000001) {B : Nat} {w : World} (hB : B < w.heap.size) (hc : w.cell? ⟨B, 1, none⟩ = some (.int .i64 nx)) : PredB 86 #[.pointer (some ⟨B, 0, none⟩)] ordE (strB nx) w := fun W x hW =>
 (strange_is nx hn B x W (Nat.lt_of_lt_of_le hB hW.size) ((hW.cell (p := ⟨B, 1, none⟩) hB).trans hc)).mono (fun _ _ h => ⟨h.1, below_via hW h.2⟩)
theorem cmp49 {s : Int} {B : Nat} {w : World} (hB : B < w.heap.size) (hc : w.cell? ⟨B, 0, none⟩ = some (.int .i64 s)) : CmpB 128 #[.pointer (some ⟨B, 0, none⟩)] ordU (ahB s) w := fun W x y hW =>
 (served1_is s B x y W (Nat.lt_of_lt_of_le hB hW.size) ((hW.cell (p := ⟨B, 0, none⟩) hB).trans hc)).mono (fun _ _ h => ⟨h.1, below_via hW h.2⟩)
theorem pred60 {w : World} : PredB 96 #[] oweE stoB w := fun W x hW => (strangeO_is x W).mono (fun _ _ h => ⟨h.1, below_via hW h.2⟩)
theorem cmp62 {w : World} : CmpB 99 #[] oweU owB w := fun W x y hW => (owedAhead_is x y W).mono (fun _ _ h => ⟨h.1, below_via hW h.2⟩)
def owedB (l : List OweV) : Bool := !(l.any stoB) && srtB owB l
set_option maxHeartbeats 4000000 in
theorem areOwed_is (v : Value) (l : List OweV) (w : World) (h : Owes w v l) : Calls Tryz.prog 69 #[v] w fun e w' => e = .returned (.bool (owedB l)) ∧ Below w.heap.size w w' := by
 have H1 := hideIt (containsW_is 96 #[] eg60 v l stoB w h pred60);have H2 := hideIt (fun W (hW : Below w.heap.size w W) => inOrdW_is 99 #[] eg62 v l owB W (h.keep hW) cmp62);obtain ⟨a, c, rfl⟩ := h.slice;unfold owedB;clear h;cases h1 : l.any stoB
 ·rw [h1] at H1
  go_enter Tryz.func69, Tryz.ntmps69
  go_wp2_with fail
  refine H1.out.mono ?_;rintro e w1 ⟨rfl, hb⟩;dsimp only;have HB := hideIt hb;clear hb
  go_wp2_with fail
  refine (H2.out _ HB.out).mono ?_;rintro e w2 ⟨rfl, hb⟩;dsimp only;have HC := hideIt (below_via HB.out hb);clear hb;go_wp2;go_ret
  exact ⟨by simp, HC.out⟩
 ·rw [h1] at H1
  go_enter Tryz.func69, Tryz.ntmps69
  go_wp2_with fail
  refine H1.out.mono ?_;rintro e w1 ⟨rfl, hb⟩;dsimp only;have HB := hideIt hb;clear hb;go_wp2;go_ret
  exact ⟨by simp, HB.out⟩
set_option maxHeartbeats 8000000 in
theorem areBids_is (L : LaneV) (b a o : Value) (w : World) (hn : 1 ≤ L.next ∧ L.next ≤ 1000001) (h : Lan w L b a o) : Calls Tryz.prog 66 #[laneV L b a o, .int .i64 1] w fun e w' => e = .returned (.bool (sideB 1 L.next L.bids)) ∧ Below w.heap.size w w' := by
 have HB := hideIt (below1 w (.cells (laneA L b a o) 59));have HN := hideIt (heap_alloc_new w (.cells (laneA L b a o) 59));have HK := h.keep HB.out;have HP := hideIt (fun W => sideOf_is w.heap.size 1 W);rw [show sideOff 1 = 2 from rfl] at HP;have H1 := hideIt (containsO_is 86 #[.pointer (some ⟨w.heap.size, 0, none⟩)] eg54 b L.bids (strB L.next) _ HK.bids (pred54 hn (B := w.heap.size) (by simp) (by rw [cell_at HN.out]; rfl)))
 have H3 := hideIt (fun W => served_is 1 W);have H2 := hideIt (fun W (hW : Below w.heap.size w W) => inOrdO_is 128 #[.pointer (some ⟨W.heap.size, 0, none⟩)] eg49 b L.bids (ahB 1) (W.alloc (.cells #[.int .i64 1] 3)) ((h.bids.keep hW).keep (below1 _ _)) (cmp49 (by simp) (by simp)));unfold sideB;obtain ⟨ba, bc, rfl⟩ := h.bids.slice;obtain ⟨aa, ac, rfl⟩ := h.asks.slice;obtain ⟨oa, oc, rfl⟩ := h.owed.slice;have hl : L.bids.length * 32 ≤ 140737488355328 := h.bids.1;unfold laneV laneA at *;obtain ⟨cl, nx, bids, asks, owed⟩ := L;simp only at *;clear h HK
 by_cases h4 : bids.length ≤ 40
 ·have h4I : ¬ (40 : Int) < (bids.length : Int) := by omega
  rw [decide_eq_true h4];cases h1 : bids.any (strB nx)
  ·rw [h1] at H1;clear hn hl h4
   go_enter Tryz.func66, Tryz.ntmps66
   go_wp2_with fail
   refine (HP.out _).mono ?_;rintro e w1 ⟨rfl, rfl⟩;dsimp only
   go_wp2_with fail
   refine H1.out.mono ?_;rintro e w1 ⟨rfl, hb⟩;dsimp only;have HB1 := hideIt (below_via HB.out hb);clear hb HB HN H1
   go_wp2_with fail
   refine (H3.out _).mono ?_;rintro e w2 ⟨rfl, rfl⟩;dsimp only
   go_wp2_with fail
   refine (H2.out _ HB1.out).mono ?_;rintro e w2 ⟨rfl, hb⟩;dsimp only;have HC := hideIt (below_via (below_via HB1.out (below1 _ _)) hb);clear hb;go_wp2;go_ret
   exact ⟨by simp, HC.out⟩
  ·rw [h1] at H1;clear hn hl h4
   go_enter Tryz.func66, Tryz.ntmps66
   go_wp2_with fail
   refine (HP.out _).mono ?_;rintro e w1 ⟨rfl, rfl⟩;dsimp only
   go_wp2_with fail
   refine H1.out.mono ?_;rintro e w1 ⟨rfl, hb⟩;dsimp only;have HB1 := hideIt (below_via HB.out hb);clear hb HB HN H1;go_wp2;go_ret
   exact ⟨by simp, HB1.out⟩
 ·have h4I : (40 : Int) < (bids.length : Int) := by omega
  rw [decide_eq_false h4];clear hn hl h4 H1 H2 H3
  go_enter Tryz.func66, Tryz.ntmps66
  go_wp2_with fail
  refine (HP.out _).mono ?_;rintro e w1 ⟨rfl, rfl⟩;dsimp only;go_wp2;go_ret
  exact ⟨by simp, HB.out⟩
set_option maxHeartbeats 8000000 in
theorem areAsks_is (L : LaneV) (b a o : Value) (w : World) (hn : 1 ≤ L.next ∧ L.next ≤ 1000001) (h : Lan w L b a o) : Calls Tryz.prog 66 #[laneV L b a o, .int .i64 2] w fun e w' => e = .returned (.bool (sideB 2 L.next L.asks)) ∧ Below w.heap.size w w' := by
 have HB := hideIt (below1 w (.cells (laneA L b a o) 59));have HN := hideIt (heap_alloc_new w (.cells (laneA L b a o) 59));have HK := h.keep HB.out;have HP := hideIt (fun W => sideOf_is w.heap.size 2 W);rw [show sideOff 2 = 3 from rfl] at HP;have H1 := hideIt (containsO_is 86 #[.pointer (some ⟨w.heap.size, 0, none⟩)] eg54 a L.asks (strB L.next) _ HK.asks (pred54 hn (B := w.heap.size) (by simp) (by rw [cell_at HN.out]; rfl)))
 have H3 := hideIt (fun W => served_is 2 W);have H2 := hideIt (fun W (hW : Below w.heap.size w W) => inOrdO_is 128 #[.pointer (some ⟨W.heap.size, 0, none⟩)] eg49 a L.asks (ahB 2) (W.alloc (.cells #[.int .i64 2] 3)) ((h.asks.keep hW).keep (below1 _ _)) (cmp49 (by simp) (by simp)));unfold sideB;obtain ⟨ba, bc, rfl⟩ := h.bids.slice;obtain ⟨aa, ac, rfl⟩ := h.asks.slice;obtain ⟨oa, oc, rfl⟩ := h.owed.slice;have hl : L.asks.length * 32 ≤ 140737488355328 := h.asks.1;unfold laneV laneA at *;obtain ⟨cl, nx, bids, asks, owed⟩ := L;simp only at *;clear h HK
 by_cases h4 : asks.length ≤ 40
 ·have h4I : ¬ (40 : Int) < (asks.length : Int) := by omega
  rw [decide_eq_true h4];cases h1 : asks.any (strB nx)
  ·rw [h1] at H1;clear hn hl h4
   go_enter Tryz.func66, Tryz.ntmps66
   go_wp2_with fail
   refine (HP.out _).mono ?_;rintro e w1 ⟨rfl, rfl⟩;dsimp only
   go_wp2_with fail
   refine H1.out.mono ?_;rintro e w1 ⟨rfl, hb⟩;dsimp only;have HB1 := hideIt (below_via HB.out hb);clear hb HB HN H1
   go_wp2_with fail
   refine (H3.out _).mono ?_;rintro e w2 ⟨rfl, rfl⟩;dsimp only
   go_wp2_with fail
   refine (H2.out _ HB1.out).mono ?_;rintro e w2 ⟨rfl, hb⟩;dsimp only;have HC := hideIt (below_via (below_via HB1.out (below1 _ _)) hb);clear hb;go_wp2;go_ret
   exact ⟨by simp, HC.out⟩
  ·rw [h1] at H1;clear hn hl h4
   go_enter Tryz.func66, Tryz.ntmps66
   go_wp2_with fail
   refine (HP.out _).mono ?_;rintro e w1 ⟨rfl, rfl⟩;dsimp only
   go_wp2_with fail
   refine H1.out.mono ?_;rintro e w1 ⟨rfl, hb⟩;dsimp only;have HB1 := hideIt (below_via HB.out hb);clear hb HB HN H1;go_wp2;go_ret
   exact ⟨by simp, HB1.out⟩
 ·have h4I : (40 : Int) < (asks.length : Int) := by omega
  rw [decide_eq_false h4];clear hn hl h4 H1 H2 H3
  go_enter Tryz.func66, Tryz.ntmps66
  go_wp2_with fail
  refine (HP.out _).mono ?_;rintro e w1 ⟨rfl, rfl⟩;dsimp only;go_wp2;go_ret
  exact ⟨by simp, HB.out⟩
theorem below_drewN {B : Nat} {w w' : World} (h : Below B w w') (n : Nat) : Below B w (w'.drewN n) := ⟨h.os, h.tape, h.output, h.size, h.block⟩
def crossB (L : LaneV) : Bool := match L.bids, L.asks with
 | x :: _, y :: _ => decide (y.price ≤ x.price)
 | _, _ => false
set_option maxHeartbeats 8000000 in
theorem isCrossed_is (L : LaneV) (b a o : Value) (w : World) (h : Lan w L b a o) : Calls Tryz.prog 68 #[laneV L b a o] w fun e w' => e = .returned (.bool (crossB L)) ∧ Below w.heap.size w w' := by
 have HB := hideIt (below1 w (.cells (laneA L b a o) 59));have hk := h.keep HB.out;obtain ⟨ba, bc, rfl, b8, hb⟩ := hk.bids.ords;obtain ⟨aa, ac, rfl, a8, ha⟩ := hk.asks.ords;obtain ⟨oa, oc, rfl⟩ := h.owed.slice;unfold laneV laneA crossB at *;obtain ⟨cl, nx, bids, asks, owed⟩ := L;simp only at *;clear h hk;cases bids with
 | nil =>
  clear hb ha;have hz : decide ((0 : Int) < (([] : List OrdV).length : Int)) = false := rfl;have hz2 : decide (0 < ([] : List OrdV).length) = false := rfl;generalize ([] : List OrdV).length = nb at *
  go_enter Tryz.func68, Tryz.ntmps68
  go_upto_region 1 with fail
  go_quiet (fail)
  go_wp2;go_ret
  exact ⟨rfl, below_drewN HB.out _⟩
 | cons x bs =>
  cases asks with
  | nil =>
   clear hb ha;have hp : (0 : Int) < ((x :: bs).length : Int) := by simp
   have hz : decide ((0 : Int) < (([] : List OrdV).length : Int)) = false := rfl;have hz2 : decide (0 < ([] : List OrdV).length) = false := rfl;have hpN : 0 < (x :: bs).length := by simp
   generalize ([] : List OrdV).length = na at *;generalize (x :: bs).length = nb at *
   go_enter Tryz.func68, Tryz.ntmps68
   go_upto_region 1 with fail
   go_quiet (fail)
   go_wp2;go_ret
   exact ⟨rfl, below_drewN HB.out _⟩
  | cons y ys =>
   obtain ⟨b1, off1, rfl, hl1, -, -, p1, -⟩ := hb 0 (by simp);obtain ⟨b2, off2, rfl, hl2, -, -, p2, -⟩ := ha 0 (by simp);have hp : (0 : Int) < ((x :: bs).length : Int) := by simp
   have hq : (0 : Int) < ((y :: ys).length : Int) := by simp
   simp only [List.getElem_cons_zero, Nat.zero_mul, Nat.add_zero] at p1 p2;clear hb ha;have hpN : 0 < (x :: bs).length := by simp
   have hqN : 0 < (y :: ys).length := by simp
   generalize (x :: bs).length = nb at *;generalize (y :: ys).length = na at *
   go_enter Tryz.func68, Tryz.ntmps68
   go_upto_region 1 with fail
   go_quiet (fail)
   go_wp2;go_ret
   exact ⟨rfl, below_drewN HB.out _⟩
theorem grown_own {W w w' : World} {B : Nat} {e : TypeId} {z n : Nat} {v : Value} {xs : List Value} (h : w.grownBy w' v.ownBlock) (ho : w.ownsRow B e z v n xs) (hB : W.heap.size ≤ B) (hb : Below W.heap.size W w) : Below W.heap.size W w' :=
 below_out hb (Out.ofGrown (F := fun k => W.heap.size ≤ k) h (fun k hk => by have := ho.lt k hk; omega)) (fun _ h => h)
theorem info3 : (Tryz.prog.info? 3).map (fun i => (i.zero, i.size, i.bytes)) = some (some (.int .i64 0), 1, 8) := by kernel_rfl
theorem info36 : (Tryz.prog.info? 115).map (fun i => (i.zero, i.size, i.bytes)) = some (some (.agg #[.int .i64 0, .int .i64 0, .int .i64 0, .int .i64 0]), 4, 32) := by kernel_rfl
theorem info39 : (Tryz.prog.info? 106).map (fun i => (i.zero, i.size, i.bytes)) = some (some (.agg #[.int .i64 0, .int .i64 0, .int .i64 0, .int .i64 0]), 4, 32) := by kernel_rfl
theorem info63 : (Tryz.prog.info? 61).map (fun i => (i.zero, i.size, i.bytes)) = some (some (.agg #[.int .i64 0, .int .i64 0, .int .i64 0]), 3, 24) := by kernel_rfl
theorem app1 {α : Type} {k bytes : Nat} {enc : α → List Value} {t e : TypeId} {z : Value} (hk : ∀ x, (enc x).length = k) (h1 : ∀ x, ∀ u ∈ enc x, u.oneCell' = true) (ht : Tryz.prog.underlying t = some (.slice e))
  (hi : (Tryz.prog.info? e).map (fun i => (i.zero, i.size, i.bytes)) = some (some z, k, bytes)) (hz : z.cells.size = k) (hk0 : 0 < k) (w : World) (B : Nat) (v : Value) (l : List α) (x : α) (b c : Nat) (hB : B ≤ w.heap.size)
  (ho : w.ownsRow B e k v l.length (celC enc l)) (hc : w.heap[b]? = some (.cells (enc x).toArray e (0, 0))) (hl : (l.length + 1) * bytes ≤ 140737488355328) (hm : l.length + 1 ≤ maxLen) :
  ∃ v' w', (Builtin.append_ #[t, t] t #[v, .slice (some ⟨b, 0, none⟩) 1 c]).run Tryz.prog w = .ok v' w' ∧ w'.ownsRow B e k v' (l ++ [x]).length (celC enc (l ++ [x])) ∧ w.grownBy w' v.ownBlock := by
 obtain ⟨i, hi, hz0, hz1, hz2⟩ := info_parts hi;obtain ⟨v', w', r1, r2, r3, _⟩ := run_append_own (P := Tryz.prog) w B t t e i _ k bytes ht hi hz0 hz1 hz2 hz hk0 v l.length (celC enc l) ho ⟨b, 0, none⟩ 1 c (enc x) (by rw [hk, Nat.one_mul]) (fun j u hu => by
  rw [addN, cell_at hc, Nat.zero_add]
  simpa using hu) (h1 x) hm hl hB
 refine ⟨v', w', r1, ?_, r3⟩;rw [List.length_append, celC_app, show celC enc [x] = enc x by simp [celC]];exact r2
def idsL (l : List OrdV) : List Int := l.map OrdV.id
def intE (x : Int) : List Value := [.int .i64 x]
theorem intC (l : List Int) : celC intE l = l.map (Value.int .i64) := by
 induction l with
 | nil => rfl
 | cons x l ih => rw [celC_cons, ih]; rfl
theorem run_copyK (w : World) (dT sT ty elem : TypeId) (k g o dLen dCap : Nat) (a : Addr) (sLen sCap : Nat) (cur : Array Value) (t : TypeId) (cs : List Value)
  (hu : Tryz.prog.underlying dT = some (.slice elem)) (hs : (Tryz.prog.info? elem).map (·.size) = some k)
  (hg : w.heap[g]? = some (.cells cur t (0, 0))) (hn : cs.length = Nat.min sLen dLen * k)
  (hsrc : ∀ j v, cs[j]? = some v → w.cell? (a.add j) = some v) (hfit : o + cs.length ≤ cur.size) (h1 : ∀ v ∈ cs, v.oneCell' = true) :
  (Builtin.copy_ #[dT, sT] ty #[.slice (some ⟨g, o, none⟩) dLen dCap, .slice (some a) sLen sCap]).run Tryz.prog w =
   .ok (goInt (Nat.min sLen dLen)) (w.setRow g (cur.toList.take o ++ cs ++ cur.toList.drop (o + cs.length)).toArray) := by
 have hst := run_storeCells_at Tryz.prog g o t cs 0 cur w hg (by simpa using hfit) h1;cases hq : Tryz.prog.info? elem with
 | none => simp [hq] at hs
 | some i =>
  have hi : i.size = k := by simpa [hq] using hs
  have hl := run_firstCells_some (P := Tryz.prog) w k (Nat.min sLen dLen) a sLen sCap cs hn hsrc
  simp [Builtin.copy_, run_underlying hu, Builtin.lenOf, sizeOf, typeInfo, hq, hi, hl, hst]
theorem wpList_copy_runK (w : World) {ops : Array Oper} {rest : List Oper} {o : Oper} {a : Act} {Q : Exit → Act → World → Prop} (hgd : o.guard = none) (d s : Operand) (t t' : TypeId)
  (ho : o.op = .call { callee := .builtin .copy, args := #[d, s], argTypes := #[t, t'] }) (v u : Value) (hd : a.eval d = v) (hs : a.eval s = u) {v' : Value} {w' : World}
  (hr : (Builtin.copy_ #[t, t'] o.type #[v, u]).run Tryz.prog w = .ok v' w') (h : wpList Tryz.prog ops Q rest (a.put o.dst v') w') : wpList Tryz.prog ops Q (o :: rest) a w := by
 refine wpList_plain hgd fun K hK => ?_
 unfold Oper.wp execOp;simp only [ho, resolve, invoke, builtin, Sem.run_bind, Sem.run_pure, Result.andThen_ok, List.map_toArray, List.map_cons, List.map_nil, hd, hs, hr];exact hK _ _ h
theorem step_copy_runK {ops : Array Oper} {o : Oper} {a : Act} {w : World} {K : Act → World → Prop} {Q : Exit → Act → World → Prop} {E : Prop}
  (hg : o.guard = none) (d x : Operand) (dT sT : TypeId) (hop : o.op = Op.call { callee := Callee.builtin Builtin.copy, args := #[d, x], argTypes := #[dT, sT] })
  (v u : Value) (hd : a.eval d = v) (hx : a.eval x = u) {v' : Value} {w' : World} (hr : (Builtin.copy_ #[dT, sT] o.type #[v, u]).run Tryz.prog w = .ok v' w') (hK : K (a.put o.dst v') w') :
  if Region.wanted o (yielded ops a.tmps) = true then Oper.wp Tryz.prog o a w K Q else E := by
 have hw : Region.wanted o (yielded ops a.tmps) = true := by simp [Region.wanted, hg]
 rw [if_pos hw];unfold Oper.wp
 simp [execOp, hop, resolve, invoke, builtin, hd, hx, hr, Result.andThen]
 exact hK
theorem step_app_runK {ops : Array Oper} {o : Oper} {a : Act} {w : World} {K : Act → World → Prop} {Q : Exit → Act → World → Prop} {E : Prop}
  (hg : o.guard = none) (d x : Operand) (dT sT : TypeId) (hop : o.op = Op.call { callee := Callee.builtin Builtin.append, args := #[d, x], argTypes := #[dT, sT] })
  (v u : Value) (hd : a.eval d = v) (hx : a.eval x = u) {v' : Value} {w' : World} (hr : (Builtin.append_ #[dT, sT] o.type #[v, u]).run Tryz.prog w = .ok v' w') (hK : K (a.put o.dst v') w') :
  if Region.wanted o (yielded ops a.tmps) = true then Oper.wp Tryz.prog o a w K Q else E := by
 have hw : Region.wanted o (yielded ops a.tmps) = true := by simp [Region.wanted, hg]
 rw [if_pos hw];unfold Oper.wp
 simp [execOp, hop, resolve, invoke, builtin, hd, hx, hr, Result.andThen]
 exact hK
theorem shift_list (A D T X : List Value) (k : Nat) (hk : X.length = k) (hT : k ≤ T.length) :
  ((((A ++ D ++ T).take (A.length + k) ++ D ++ (A ++ D ++ T).drop (A.length + k + D.length)).take A.length ++ X ++ ((A ++ D ++ T).take (A.length + k) ++ D ++ (A ++ D ++ T).drop (A.length + k + D.length)).drop (A.length + X.length)).take (A.length + k + D.length)) = A ++ X ++ D := by
 have hl : ((A ++ D ++ T).take (A.length + k)).length = A.length + k := by
  rw [List.length_take, List.length_append, List.length_append];omega
 have e1 : ((A ++ D ++ T).take (A.length + k) ++ D ++ (A ++ D ++ T).drop (A.length + k + D.length)).take A.length = A := by
  rw [List.append_assoc, List.take_append_of_le_length (by omega), List.take_take, Nat.min_eq_left (by omega), List.append_assoc, List.take_left']
  rfl
 have e2 : ((A ++ D ++ T).take (A.length + k) ++ D ++ (A ++ D ++ T).drop (A.length + k + D.length)).drop (A.length + X.length) = D ++ (A ++ D ++ T).drop (A.length + k + D.length) := by
  rw [List.append_assoc, hk, List.drop_left' hl]
 rw [e1, e2, ← List.append_assoc, List.take_left'];rw [List.length_append, List.length_append, hk]
theorem grow_list (A D Z X : List Value) (k : Nat) (hk : X.length = k) (hZ : k + D.length ≤ Z.length) :
  ((((A ++ Z).take A.length ++ X ++ (A ++ Z).drop (A.length + X.length)).take (A.length + k) ++ D ++ ((A ++ Z).take A.length ++ X ++ (A ++ Z).drop (A.length + X.length)).drop (A.length + k + D.length)).take (A.length + k + D.length)) = A ++ X ++ D := by
 have e0 : (A ++ Z).take A.length = A := List.take_left' rfl;have e1 : ((A ++ Z).take A.length ++ X ++ (A ++ Z).drop (A.length + X.length)).take (A.length + k) = A ++ X := by
  rw [e0, List.take_left'];rw [List.length_append, hk]
 rw [e1, List.take_left'];rw [List.length_append, List.length_append, hk]
end Go.Proofs.YtiinigifjdpicaaGreatDoor
