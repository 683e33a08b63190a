/- inOrder, over whatever comparison it is handed. -/
import Derived.Test.YtiinigifjdpicaaGreatDoorFun
import Derived.Deep.RegionHeld3
namespace Go.Proofs.YtiinigifjdpicaaGreatDoor
open Go.RowKit
set_option linter.all false
/-- Does each one of a list stand ahead of the next? -/
def srtB {α : Type} (r : α → α → Bool) : List α → Bool
  | [] => true
  | [_] => true
  | a :: b :: t => r a b && srtB r (b :: t)
theorem srtB_at {α : Type} (r : α → α → Bool) (l : List α) (u t : Nat) (hu : t = u + 1) (h : t < l.length) : srtB r (l.drop u) = (r (l[u]'(by omega)) l[t] && srtB r (l.drop t)) := by
  subst hu
  rw [List.drop_eq_getElem_cons (by omega : u < l.length), List.drop_eq_getElem_cons h]
  rfl
theorem srtB_end {α : Type} (r : α → α → Bool) (l : List α) (u : Nat) (h : l.length ≤ u + 1) : srtB r (l.drop u) = true := by
  have : (l.drop u).length ≤ 1 := by rw [List.length_drop]; omega
  match hd : l.drop u, this with
  | [], _ => rfl
  | [x], _ => rfl
  | _ :: _ :: _, h => simp at h
def ordU (o : OrdV) : Value := .agg (ordE o).toArray
def oweU (o : OweV) : Value := .agg (oweE o).toArray
def intU (x : Int) : Value := .int .i64 x
abbrev Ints (w : World) (v : Value) (l : List Int) : Prop := SGot 1 8 (fun x => [Value.int .i64 x]) w v l
theorem SGot.ints {w : World} {v : Value} {l : List Int} (h : Ints w v l) : ∃ a c, v = .slice a l.length c ∧ l.length * 8 ≤ 140737488355328 ∧ ∀ i (h : i < l.length), ∃ b off, a = some ⟨b, off, none⟩ ∧ b < w.heap.size ∧ w.cell? ⟨b, off + i, none⟩ = some (.int .i64 l[i]) := by
  obtain ⟨h8, a, c, rfl, _, hr⟩ := h
  refine ⟨a, c, rfl, h8, fun i hi => ?_⟩
  obtain ⟨b, off, rfl, hlt, hc⟩ := hr (by omega)
  have g := celC_get (enc := fun x : Int => [Value.int .i64 x]) (k := 1) (fun _ => rfl) l i hi 0 (by omega)
  refine ⟨b, off, rfl, hlt, (hc i (by omega)).trans ?_⟩
  rw [Nat.mul_one, Nat.add_zero] at g
  exact g
set_option maxHeartbeats 4000000 in
set_option maxRecDepth 100000 in
theorem inOrdO_is (g : Nat) (lb : Array Value) (eg : ∀ args w, (callFunc g args).run Tryz.prog w = .ok (.enter g args) w) (v : Value) (l : List OrdV) (r : OrdV → OrdV → Bool) (w : World) (h : Ords w v l) (hp : CmpB g lb ordU r w) :
    Calls Tryz.prog 91 #[v, .func (.func g) #[] lb] w fun e w' => e = .returned (.bool (srtB r l)) ∧ Below w.heap.size w w' := by
  obtain ⟨a, c, rfl, h8, hr⟩ := h.ords
  have HH := hideIt hr
  have HP := hideIt hp
  clear hr h hp
  go_enter Tryz.func91, Tryz.ntmps91
  go_wp2
  go_loopw [5] (fun v wr => ∃ t : Nat, v = .int .i64 t ∧ 1 ≤ t ∧ Hid ((t ≤ l.length ∨ t = 1) ∧ srtB r l = srtB r (l.drop (t - 1)) ∧ Below w.heap.size w wr)) (fun v _ => l.length - (intOf v).toNat)
  case atStart => exact ⟨1, rfl, Nat.le_refl _, hideIt ⟨.inr rfl, by simp, Below.refl _ _⟩⟩
  case round =>
    obtain ⟨t, rfl, ht1, HR⟩ := hrel
    by_cases hlt : t < l.length
    · have hltI : (t : Int) < (l.length : Int) := by omega
      have ht0 : (0 : Int) ≤ (t : Int) := by omega
      obtain ⟨u, hu⟩ : ∃ u, t = u + 1 := ⟨t - 1, by omega⟩
      have hu0 : (0 : Int) ≤ (u : Int) := by omega
      have hu1 : (u : Int) < (l.length : Int) := by omega
      have hw : IntKind.i64.wrap ((t : Int) + 1) = ((t + 1 : Nat) : Int) := by rw [IntKind.wrap_i64]; omega
      have hw2 : IntKind.i64.wrap ((t : Int) - 1) = (u : Int) := by rw [IntKind.wrap_i64]; omega
      obtain ⟨b, off, rfl, hbl, q0, q1, q2, q3⟩ := HH.out t hlt
      obtain ⟨b', off', e, -, p0, p1, p2, p3⟩ := HH.out u (by omega)
      simp only [Option.some.injEq, Addr.mk.injEq, and_true] at e
      obtain ⟨rfl, rfl⟩ := e
      have hBw := HR.out.2.2
      have hblr : b < wr.heap.size := Nat.lt_of_lt_of_le hbl hBw.size
      have HS := hideIt (srtB_at r l u t hu hlt)
      have HU := hideIt hu
      have HF : Hid (srtB r l = (r (l[u]'(by omega)) l[t] && srtB r (l.drop t))) := by
        show _ = _
        rw [HR.out.2.1, ← HS.out]
        congr 2
        omega
      generalize l[u]'(by omega) = en at *
      generalize l[t] = em at *
      have HK : Hid (∀ W, Below w.heap.size w W → W.cell? ⟨b, off + t * 4, none⟩ = some (.int .i64 em.id) ∧ W.cell? ⟨b, off + t * 4 + 1, none⟩ = some (.int .i64 em.acc) ∧ W.cell? ⟨b, off + t * 4 + 2, none⟩ = some (.int .i64 em.price) ∧ W.cell? ⟨b, off + t * 4 + 3, none⟩ = some (.int .i64 em.left) ∧ W.cell? ⟨b, off + u * 4, none⟩ = some (.int .i64 en.id) ∧ W.cell? ⟨b, off + u * 4 + 1, none⟩ = some (.int .i64 en.acc) ∧ W.cell? ⟨b, off + u * 4 + 2, none⟩ = some (.int .i64 en.price) ∧ W.cell? ⟨b, off + u * 4 + 3, none⟩ = some (.int .i64 en.left)) := fun W hW => ⟨(hW.cell (p := ⟨b, off + t * 4, none⟩) hbl).trans q0, (hW.cell (p := ⟨b, off + t * 4 + 1, none⟩) hbl).trans q1, (hW.cell (p := ⟨b, off + t * 4 + 2, none⟩) hbl).trans q2, (hW.cell (p := ⟨b, off + t * 4 + 3, none⟩) hbl).trans q3, (hW.cell (p := ⟨b, off + u * 4, none⟩) hbl).trans p0, (hW.cell (p := ⟨b, off + u * 4 + 1, none⟩) hbl).trans p1, (hW.cell (p := ⟨b, off + u * 4 + 2, none⟩) hbl).trans p2, (hW.cell (p := ⟨b, off + u * 4 + 3, none⟩) hbl).trans p3⟩
      have HC : Hid (∀ W, Below w.heap.size w W → Calls Tryz.prog g (#[ordU en, ordU em] ++ lb) W fun e w' => e = .returned (.bool (r en em)) ∧ Below w.heap.size w w' ∧ ((fun W => W.cell? ⟨b, off + t * 4, none⟩ = some (.int .i64 em.id) ∧ W.cell? ⟨b, off + t * 4 + 1, none⟩ = some (.int .i64 em.acc) ∧ W.cell? ⟨b, off + t * 4 + 2, none⟩ = some (.int .i64 em.price) ∧ W.cell? ⟨b, off + t * 4 + 3, none⟩ = some (.int .i64 em.left) ∧ W.cell? ⟨b, off + u * 4, none⟩ = some (.int .i64 en.id) ∧ W.cell? ⟨b, off + u * 4 + 1, none⟩ = some (.int .i64 en.acc) ∧ W.cell? ⟨b, off + u * 4 + 2, none⟩ = some (.int .i64 en.price) ∧ W.cell? ⟨b, off + u * 4 + 3, none⟩ = some (.int .i64 en.left)) w')) := fun W hW => (HP.out W en em hW).mono (fun e w' hx => ⟨hx.1, hx.2, HK.out w' hx.2⟩)
      clear q0 q1 q2 q3 p0 p1 p2 p3 HP
      (try dsimp only at HC)
      unfold ordU ordE at HC
      (try dsimp only at HC)
      have HBW := hideIt HR.out.2.2
      have HT := hideIt ht1
      have c9 := HK.out wr HBW.out
      clear HH hBw hbl HR HS hu ht1
      go_upto_region 4 with fail
      go_cut [22, 23] from 12 to 23 (fun u v wx => u = .bool (r en em) ∧ v = .bool (!(r en em)) ∧ Below w.heap.size w wx)
      case first =>
        obtain ⟨c0, c1, c2, c3, c4, c5, c6, c7⟩ := c9
        go_region_held3 (fun W => W.cell? ⟨b, off + t * 4, none⟩ = some (.int .i64 em.id) ∧ W.cell? ⟨b, off + t * 4 + 1, none⟩ = some (.int .i64 em.acc) ∧ W.cell? ⟨b, off + t * 4 + 2, none⟩ = some (.int .i64 em.price) ∧ W.cell? ⟨b, off + t * 4 + 3, none⟩ = some (.int .i64 em.left) ∧ W.cell? ⟨b, off + u * 4, none⟩ = some (.int .i64 en.id) ∧ W.cell? ⟨b, off + u * 4 + 1, none⟩ = some (.int .i64 en.acc) ∧ W.cell? ⟨b, off + u * 4 + 2, none⟩ = some (.int .i64 en.price) ∧ W.cell? ⟨b, off + u * 4 + 3, none⟩ = some (.int .i64 en.left)) (go_keep) (first | (refine (HC.out _ (by first | exact HBW.out | exact HBW.out.drew)).mono ?_; rintro e w5 ⟨rfl, hst, j0, j1, j2, j3, j4, j5, j6, j7⟩))
        all_goals go_wp2_with fail
        all_goals go_meet
        all_goals exact ⟨rfl, rfl, hst⟩
      case rest =>
      obtain ⟨rfl, rfl, hb⟩ := hcut
      have HB := hideIt hb
      clear c9 hb HC HK HBW
      cases hq : r en em
      · rw [hq] at HF
        go_wp2
        go_ret
        exact ⟨by rw [HF.out]; rfl, HB.out⟩
      · rw [hq] at HF
        go_wp2
        go_roundw
        case rel => exact ⟨t + 1, by go_num, by have := HT.out; omega, hideIt ⟨.inl (by omega), by simpa using HF.out, HB.out⟩⟩
        case measure => simp [intOf]; omega
    · have hltI : ¬ (t : Int) < (l.length : Int) := by omega
      have HF : Hid (srtB r l = true) := by
        show _ = _
        rw [HR.out.2.1]
        exact srtB_end r l (t - 1) (by omega)
      have HB := hideIt HR.out.2.2
      clear HR HP HH
      go_wp2
      go_ret
      exact ⟨by rw [HF.out]; rfl, HB.out⟩
set_option maxHeartbeats 4000000 in
set_option maxRecDepth 100000 in
theorem inOrdW_is (g : Nat) (lb : Array Value) (eg : ∀ args w, (callFunc g args).run Tryz.prog w = .ok (.enter g args) w) (v : Value) (l : List OweV) (r : OweV → OweV → Bool) (w : World) (h : Owes w v l) (hp : CmpB g lb oweU r w) :
    Calls Tryz.prog 98 #[v, .func (.func g) #[] lb] w fun e w' => e = .returned (.bool (srtB r l)) ∧ Below w.heap.size w w' := by
  obtain ⟨a, c, rfl, h8, hr⟩ := h.owes
  have HH := hideIt hr
  have HP := hideIt hp
  clear hr h hp
  go_enter Tryz.func98, Tryz.ntmps98
  go_wp2
  go_loopw [5] (fun v wr => ∃ t : Nat, v = .int .i64 t ∧ 1 ≤ t ∧ Hid ((t ≤ l.length ∨ t = 1) ∧ srtB r l = srtB r (l.drop (t - 1)) ∧ Below w.heap.size w wr)) (fun v _ => l.length - (intOf v).toNat)
  case atStart => exact ⟨1, rfl, Nat.le_refl _, hideIt ⟨.inr rfl, by simp, Below.refl _ _⟩⟩
  case round =>
    obtain ⟨t, rfl, ht1, HR⟩ := hrel
    by_cases hlt : t < l.length
    · have hltI : (t : Int) < (l.length : Int) := by omega
      have ht0 : (0 : Int) ≤ (t : Int) := by omega
      obtain ⟨u, hu⟩ : ∃ u, t = u + 1 := ⟨t - 1, by omega⟩
      have hu0 : (0 : Int) ≤ (u : Int) := by omega
      have hu1 : (u : Int) < (l.length : Int) := by omega
      have hw : IntKind.i64.wrap ((t : Int) + 1) = ((t + 1 : Nat) : Int) := by rw [IntKind.wrap_i64]; omega
      have hw2 : IntKind.i64.wrap ((t : Int) - 1) = (u : Int) := by rw [IntKind.wrap_i64]; omega
      obtain ⟨b, off, rfl, hbl, q0, q1, q2⟩ := HH.out t hlt
      obtain ⟨b', off', e, -, p0, p1, p2⟩ := HH.out u (by omega)
      simp only [Option.some.injEq, Addr.mk.injEq, and_true] at e
      obtain ⟨rfl, rfl⟩ := e
      have hBw := HR.out.2.2
      have hblr : b < wr.heap.size := Nat.lt_of_lt_of_le hbl hBw.size
      have HS := hideIt (srtB_at r l u t hu hlt)
      have HU := hideIt hu
      have HF : Hid (srtB r l = (r (l[u]'(by omega)) l[t] && srtB r (l.drop t))) := by
        show _ = _
        rw [HR.out.2.1, ← HS.out]
        congr 2
        omega
      generalize l[u]'(by omega) = en at *
      generalize l[t] = em at *
      have HK : Hid (∀ W, Below w.heap.size w W → W.cell? ⟨b, off + t * 3, none⟩ = some (.int .i64 em.acc) ∧ W.cell? ⟨b, off + t * 3 + 1, none⟩ = some (.int .i64 em.asset) ∧ W.cell? ⟨b, off + t * 3 + 2, none⟩ = some (.int .i64 em.n) ∧ W.cell? ⟨b, off + u * 3, none⟩ = some (.int .i64 en.acc) ∧ W.cell? ⟨b, off + u * 3 + 1, none⟩ = some (.int .i64 en.asset) ∧ W.cell? ⟨b, off + u * 3 + 2, none⟩ = some (.int .i64 en.n)) := fun W hW => ⟨(hW.cell (p := ⟨b, off + t * 3, none⟩) hbl).trans q0, (hW.cell (p := ⟨b, off + t * 3 + 1, none⟩) hbl).trans q1, (hW.cell (p := ⟨b, off + t * 3 + 2, none⟩) hbl).trans q2, (hW.cell (p := ⟨b, off + u * 3, none⟩) hbl).trans p0, (hW.cell (p := ⟨b, off + u * 3 + 1, none⟩) hbl).trans p1, (hW.cell (p := ⟨b, off + u * 3 + 2, none⟩) hbl).trans p2⟩
      have HC : Hid (∀ W, Below w.heap.size w W → Calls Tryz.prog g (#[oweU en, oweU em] ++ lb) W fun e w' => e = .returned (.bool (r en em)) ∧ Below w.heap.size w w' ∧ ((fun W => W.cell? ⟨b, off + t * 3, none⟩ = some (.int .i64 em.acc) ∧ W.cell? ⟨b, off + t * 3 + 1, none⟩ = some (.int .i64 em.asset) ∧ W.cell? ⟨b, off + t * 3 + 2, none⟩ = some (.int .i64 em.n) ∧ W.cell? ⟨b, off + u * 3, none⟩ = some (.int .i64 en.acc) ∧ W.cell? ⟨b, off + u * 3 + 1, none⟩ = some (.int .i64 en.asset) ∧ W.cell? ⟨b, off + u * 3 + 2, none⟩ = some (.int .i64 en.n)) w')) := fun W hW => (HP.out W en em hW).mono (fun e w' hx => ⟨hx.1, hx.2, HK.out w' hx.2⟩)
      clear q0 q1 q2 p0 p1 p2 HP
      (try dsimp only at HC)
      unfold oweU oweE at HC
      (try dsimp only at HC)
      have HBW := hideIt HR.out.2.2
      have HT := hideIt ht1
      have c9 := HK.out wr HBW.out
      clear HH hBw hbl HR HS hu ht1
      go_upto_region 4 with fail
      go_cut [22, 23] from 12 to 23 (fun u v wx => u = .bool (r en em) ∧ v = .bool (!(r en em)) ∧ Below w.heap.size w wx)
      case first =>
        obtain ⟨c0, c1, c2, c3, c4, c5⟩ := c9
        go_region_held3 (fun W => W.cell? ⟨b, off + t * 3, none⟩ = some (.int .i64 em.acc) ∧ W.cell? ⟨b, off + t * 3 + 1, none⟩ = some (.int .i64 em.asset) ∧ W.cell? ⟨b, off + t * 3 + 2, none⟩ = some (.int .i64 em.n) ∧ W.cell? ⟨b, off + u * 3, none⟩ = some (.int .i64 en.acc) ∧ W.cell? ⟨b, off + u * 3 + 1, none⟩ = some (.int .i64 en.asset) ∧ W.cell? ⟨b, off + u * 3 + 2, none⟩ = some (.int .i64 en.n)) (go_keep) (first | (refine (HC.out _ (by first | exact HBW.out | exact HBW.out.drew)).mono ?_; rintro e w5 ⟨rfl, hst, j0, j1, j2, j3, j4, j5⟩))
        all_goals go_wp2_with fail
        all_goals go_meet
        all_goals exact ⟨rfl, rfl, hst⟩
      case rest =>
      obtain ⟨rfl, rfl, hb⟩ := hcut
      have HB := hideIt hb
      clear c9 hb HC HK HBW
      cases hq : r en em
      · rw [hq] at HF
        go_wp2
        go_ret
        exact ⟨by rw [HF.out]; rfl, HB.out⟩
      · rw [hq] at HF
        go_wp2
        go_roundw
        case rel => exact ⟨t + 1, by go_num, by have := HT.out; omega, hideIt ⟨.inl (by omega), by simpa using HF.out, HB.out⟩⟩
        case measure => simp [intOf]; omega
    · have hltI : ¬ (t : Int) < (l.length : Int) := by omega
      have HF : Hid (srtB r l = true) := by
        show _ = _
        rw [HR.out.2.1]
        exact srtB_end r l (t - 1) (by omega)
      have HB := hideIt HR.out.2.2
      clear HR HP HH
      go_wp2
      go_ret
      exact ⟨by rw [HF.out]; rfl, HB.out⟩
set_option maxHeartbeats 4000000 in
set_option maxRecDepth 100000 in
theorem inOrdI_is (g : Nat) (lb : Array Value) (eg : ∀ args w, (callFunc g args).run Tryz.prog w = .ok (.enter g args) w) (v : Value) (l : List Int) (r : Int → Int → Bool) (w : World) (h : Ints w v l) (hp : CmpB g lb intU r w) :
    Calls Tryz.prog 94 #[v, .func (.func g) #[] lb] w fun e w' => e = .returned (.bool (srtB r l)) ∧ Below w.heap.size w w' := by
  obtain ⟨a, c, rfl, h8, hr⟩ := h.ints
  have HH := hideIt hr
  have HP := hideIt hp
  clear hr h hp
  go_enter Tryz.func94, Tryz.ntmps94
  go_wp2
  go_loopw [5] (fun v wr => ∃ t : Nat, v = .int .i64 t ∧ 1 ≤ t ∧ Hid ((t ≤ l.length ∨ t = 1) ∧ srtB r l = srtB r (l.drop (t - 1)) ∧ Below w.heap.size w wr)) (fun v _ => l.length - (intOf v).toNat)
  case atStart => exact ⟨1, rfl, Nat.le_refl _, hideIt ⟨.inr rfl, by simp, Below.refl _ _⟩⟩
  case round =>
    obtain ⟨t, rfl, ht1, HR⟩ := hrel
    by_cases hlt : t < l.length
    · have hltI : (t : Int) < (l.length : Int) := by omega
      have ht0 : (0 : Int) ≤ (t : Int) := by omega
      obtain ⟨u, hu⟩ : ∃ u, t = u + 1 := ⟨t - 1, by omega⟩
      have hu0 : (0 : Int) ≤ (u : Int) := by omega
      have hu1 : (u : Int) < (l.length : Int) := by omega
      have hw : IntKind.i64.wrap ((t : Int) + 1) = ((t + 1 : Nat) : Int) := by rw [IntKind.wrap_i64]; omega
      have hw2 : IntKind.i64.wrap ((t : Int) - 1) = (u : Int) := by rw [IntKind.wrap_i64]; omega
      obtain ⟨b, off, rfl, hbl, q0⟩ := HH.out t hlt
      obtain ⟨b', off', e, -, p0⟩ := HH.out u (by omega)
      simp only [Option.some.injEq, Addr.mk.injEq, and_true] at e
      obtain ⟨rfl, rfl⟩ := e
      have hBw := HR.out.2.2
      have hblr : b < wr.heap.size := Nat.lt_of_lt_of_le hbl hBw.size
      have HS := hideIt (srtB_at r l u t hu hlt)
      have HU := hideIt hu
      have HF : Hid (srtB r l = (r (l[u]'(by omega)) l[t] && srtB r (l.drop t))) := by
        show _ = _
        rw [HR.out.2.1, ← HS.out]
        congr 2
        omega
      generalize l[u]'(by omega) = en at *
      generalize l[t] = em at *
      have HK : Hid (∀ W, Below w.heap.size w W → W.cell? ⟨b, off + t, none⟩ = some (.int .i64 em) ∧ W.cell? ⟨b, off + u, none⟩ = some (.int .i64 en)) := fun W hW => ⟨(hW.cell (p := ⟨b, off + t, none⟩) hbl).trans q0, (hW.cell (p := ⟨b, off + u, none⟩) hbl).trans p0⟩
      have HC : Hid (∀ W, Below w.heap.size w W → Calls Tryz.prog g (#[intU en, intU em] ++ lb) W fun e w' => e = .returned (.bool (r en em)) ∧ Below w.heap.size w w' ∧ ((fun W => W.cell? ⟨b, off + t, none⟩ = some (.int .i64 em) ∧ W.cell? ⟨b, off + u, none⟩ = some (.int .i64 en)) w')) := fun W hW => (HP.out W en em hW).mono (fun e w' hx => ⟨hx.1, hx.2, HK.out w' hx.2⟩)
      clear q0 p0 HP
      (try dsimp only at HC)
      unfold intU at HC
      (try dsimp only at HC)
      have HBW := hideIt HR.out.2.2
      have HT := hideIt ht1
      have c9 := HK.out wr HBW.out
      clear HH hBw hbl HR HS hu ht1
      go_upto_region 4 with fail
      go_cut [22, 23] from 12 to 23 (fun u v wx => u = .bool (r en em) ∧ v = .bool (!(r en em)) ∧ Below w.heap.size w wx)
      case first =>
        obtain ⟨c0, c1⟩ := c9
        go_region_held3 (fun W => W.cell? ⟨b, off + t, none⟩ = some (.int .i64 em) ∧ W.cell? ⟨b, off + u, none⟩ = some (.int .i64 en)) (go_keep) (first | (refine (HC.out _ (by first | exact HBW.out | exact HBW.out.drew)).mono ?_; rintro e w5 ⟨rfl, hst, j0, j1⟩))
        all_goals go_wp2_with fail
        all_goals go_meet
        all_goals exact ⟨rfl, rfl, hst⟩
      case rest =>
      obtain ⟨rfl, rfl, hb⟩ := hcut
      have HB := hideIt hb
      clear c9 hb HC HK HBW
      cases hq : r en em
      · rw [hq] at HF
        go_wp2
        go_ret
        exact ⟨by rw [HF.out]; rfl, HB.out⟩
      · rw [hq] at HF
        go_wp2
        go_roundw
        case rel => exact ⟨t + 1, by go_num, by have := HT.out; omega, hideIt ⟨.inl (by omega), by simpa using HF.out, HB.out⟩⟩
        case measure => simp [intOf]; omega
    · have hltI : ¬ (t : Int) < (l.length : Int) := by omega
      have HF : Hid (srtB r l = true) := by
        show _ = _
        rw [HR.out.2.1]
        exact srtB_end r l (t - 1) (by omega)
      have HB := hideIt HR.out.2.2
      clear HR HP HH
      go_wp2
      go_ret
      exact ⟨by rw [HF.out]; rfl, HB.out⟩
end Go.Proofs.YtiinigifjdpicaaGreatDoor
