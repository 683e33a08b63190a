/- slices.IndexFunc, slices.ContainsFunc and inOrder, over whatever function they are handed. -/
import Derived.Test.YtiinigifjdpicaaGreatDoorSmall
namespace Go.Proofs.YtiinigifjdpicaaGreatDoor
open Go.RowKit
set_option linter.all false
/-- A predicate that is handed over. -/
def PredB {α : Type} (g : Nat) (lb : Array Value) (enc : α → List Value) (p : α → Bool) (w : World) : Prop :=
  ∀ (W : World) (x : α), Below w.heap.size w W → Calls Tryz.prog g (#[.agg (enc x).toArray] ++ lb) W fun e w' => e = .returned (.bool (p x)) ∧ Below w.heap.size w w'
/-- A comparison that is handed over. -/
def CmpB {α : Type} (g : Nat) (lb : Array Value) (enc : α → Value) (r : α → α → Bool) (w : World) : Prop :=
  ∀ (W : World) (x y : α), Below w.heap.size w W → Calls Tryz.prog g (#[enc x, enc y] ++ lb) W fun e w' => e = .returned (.bool (r x y)) ∧ Below w.heap.size w w'
def idxI {α : Type} (p : α → Bool) (l : List α) : Int := match l.findIdx? p with | some i => (i : Int) | none => -1
theorem fi_hit {α : Type} {p : α → Bool} {l : List α} {t : Nat} (h : t < l.length) (hp : p l[t] = true) : (l.drop t).findIdx? p = some 0 := by
  rw [List.drop_eq_getElem_cons h, List.findIdx?_cons, if_pos hp]
theorem fi_miss {α : Type} {p : α → Bool} {l : List α} {t : Nat} (h : t < l.length) (hp : p l[t] = false) : (l.drop t).findIdx? p = ((l.drop (t + 1)).findIdx? p).map (· + 1) := by
  rw [List.drop_eq_getElem_cons h, List.findIdx?_cons, if_neg (by simp [hp])]
theorem idx_any {α : Type} (p : α → Bool) (l : List α) : decide (0 ≤ idxI p l) = l.any p := by
  unfold idxI
  cases h : l.findIdx? p with
  | none =>
    have : l.any p = false := by
      rw [List.findIdx?_eq_none_iff] at h
      simpa using h
    simp [this]
  | some i =>
    have : l.any p = true := by
      rw [List.findIdx?_eq_some_iff_getElem] at h
      obtain ⟨h1, h2, _⟩ := h
      simp only [List.any_eq_true]
      exact ⟨_, List.getElem_mem h1, h2⟩
    simp [this]
set_option maxHeartbeats 4000000 in
set_option maxRecDepth 100000 in
theorem indexO_is (g : Nat) (lb : Array Value) (eg : ∀ args w, (callFunc g args).run Tryz.prog w = .ok (.enter g args) w) (v : Value) (l : List OrdV) (p : OrdV → Bool) (w : World) (h : Ords w v l) (hp : PredB g lb ordE p w) :
    Calls Tryz.prog 127 #[v, .func (.func g) #[] lb] w fun e w' => e = .returned (.int .i64 (idxI p l)) ∧ Below w.heap.size w w' := by
  obtain ⟨a, c, rfl, h8, hr⟩ := h.ords
  have HH := hideIt hr
  have HP := hideIt hp
  clear hr h hp
  go_enter Tryz.func127, Tryz.ntmps127
  go_wp2
  go_loopw [5, 8] (fun _ v wr => ∃ t : Nat, v = .int .i64 t ∧ t ≤ l.length ∧ Hid (l.findIdx? p = ((l.drop t).findIdx? p).map (· + t) ∧ Below w.heap.size w wr)) (fun _ v _ => l.length - (intOf v).toNat)
  case atStart => exact ⟨0, rfl, Nat.zero_le _, hideIt ⟨by simp, Below.refl _ _⟩⟩
  case round =>
    obtain ⟨t, rfl, ht, HR⟩ := hrel
    by_cases hlt : t < l.length
    · have hltI : (t : Int) < (l.length : Int) := by omega
      have ht0 : (0 : Int) ≤ (t : Int) := by omega
      have hw : IntKind.i64.wrap ((t : Int) + 1) = (t : Int) + 1 := by rw [IntKind.wrap_i64]; omega
      obtain ⟨b, off, rfl, hbl, q0, q1, q2, q3⟩ := HH.out t hlt
      have hB := HR.out.2
      have hBS := hB.size
      have hblr : b < wr.heap.size := by omega
      have c0 := ((HR.out.2).cell (p := ⟨b, off + t * 4, none⟩) hbl).trans q0
      have c1 := ((HR.out.2).cell (p := ⟨b, off + t * 4 + 1, none⟩) hbl).trans q1
      have c2 := ((HR.out.2).cell (p := ⟨b, off + t * 4 + 2, none⟩) hbl).trans q2
      have c3 := ((HR.out.2).cell (p := ⟨b, off + t * 4 + 3, none⟩) hbl).trans q3
      clear q0 q1 q2 q3
      have HC := hideIt (HP.out wr l[t] hB)
      clear HH HP hB hBS hbl
      cases hq : p l[t]
      · rw [hq] at HC
        have HF : Hid (l.findIdx? p = ((l.drop (t + 1)).findIdx? p).map (· + (t + 1))) := by
          show _ = _
          rw [HR.out.1, fi_miss hlt hq, Option.map_map]
          congr 1
          funext x
          simp only [Function.comp]
          omega
        clear HR hq
        generalize l[t] = en at *
        obtain ⟨i1, a1, p1, l1⟩ := en
        unfold ordE at HC
        (try dsimp only at c0 c1 c2 HC)
        (try dsimp only at c3)
        go_wp2_with fail
        refine HC.out.mono ?_
        rintro e w' ⟨rfl, hb'⟩
        dsimp only
        go_wp2
        go_roundw
        case rel => exact ⟨t + 1, by go_num, by omega, hideIt ⟨HF.out, hb'⟩⟩
        case measure => simp [intOf]; omega
      · rw [hq] at HC
        have HF : Hid (idxI p l = (t : Int)) := by
          show _ = _
          unfold idxI
          rw [HR.out.1, fi_hit hlt hq]
          simp
        clear HR hq
        generalize l[t] = en at *
        obtain ⟨i1, a1, p1, l1⟩ := en
        unfold ordE at HC
        (try dsimp only at c0 c1 c2 HC)
        (try dsimp only at c3)
        go_wp2_with fail
        refine HC.out.mono ?_
        rintro e w' ⟨rfl, hb'⟩
        dsimp only
        go_wp2
        go_ret
        exact ⟨by rw [HF.out]; rfl, hb'⟩
    · have hltI : ¬ (t : Int) < (l.length : Int) := by omega
      have HF : Hid (idxI p l = -1) := by
        show _ = _
        unfold idxI
        rw [HR.out.1, List.drop_of_length_le (by omega)]
        rfl
      have HB := hideIt HR.out.2
      clear HR HP HH
      go_wp2
      go_ret
      exact ⟨by rw [HF.out]; rfl, HB.out⟩
set_option maxHeartbeats 4000000 in
set_option maxRecDepth 100000 in
theorem indexW_is (g : Nat) (lb : Array Value) (eg : ∀ args w, (callFunc g args).run Tryz.prog w = .ok (.enter g args) w) (v : Value) (l : List OweV) (p : OweV → Bool) (w : World) (h : Owes w v l) (hp : PredB g lb oweE p w) :
    Calls Tryz.prog 131 #[v, .func (.func g) #[] lb] w fun e w' => e = .returned (.int .i64 (idxI p l)) ∧ Below w.heap.size w w' := by
  obtain ⟨a, c, rfl, h8, hr⟩ := h.owes
  have HH := hideIt hr
  have HP := hideIt hp
  clear hr h hp
  go_enter Tryz.func131, Tryz.ntmps131
  go_wp2
  go_loopw [5, 8] (fun _ v wr => ∃ t : Nat, v = .int .i64 t ∧ t ≤ l.length ∧ Hid (l.findIdx? p = ((l.drop t).findIdx? p).map (· + t) ∧ Below w.heap.size w wr)) (fun _ v _ => l.length - (intOf v).toNat)
  case atStart => exact ⟨0, rfl, Nat.zero_le _, hideIt ⟨by simp, Below.refl _ _⟩⟩
  case round =>
    obtain ⟨t, rfl, ht, HR⟩ := hrel
    by_cases hlt : t < l.length
    · have hltI : (t : Int) < (l.length : Int) := by omega
      have ht0 : (0 : Int) ≤ (t : Int) := by omega
      have hw : IntKind.i64.wrap ((t : Int) + 1) = (t : Int) + 1 := by rw [IntKind.wrap_i64]; omega
      obtain ⟨b, off, rfl, hbl, q0, q1, q2⟩ := HH.out t hlt
      have hB := HR.out.2
      have hBS := hB.size
      have hblr : b < wr.heap.size := by omega
      have c0 := ((HR.out.2).cell (p := ⟨b, off + t * 3, none⟩) hbl).trans q0
      have c1 := ((HR.out.2).cell (p := ⟨b, off + t * 3 + 1, none⟩) hbl).trans q1
      have c2 := ((HR.out.2).cell (p := ⟨b, off + t * 3 + 2, none⟩) hbl).trans q2
      clear q0 q1 q2
      have HC := hideIt (HP.out wr l[t] hB)
      clear HH HP hB hBS hbl
      cases hq : p l[t]
      · rw [hq] at HC
        have HF : Hid (l.findIdx? p = ((l.drop (t + 1)).findIdx? p).map (· + (t + 1))) := by
          show _ = _
          rw [HR.out.1, fi_miss hlt hq, Option.map_map]
          congr 1
          funext x
          simp only [Function.comp]
          omega
        clear HR hq
        generalize l[t] = en at *
        obtain ⟨a1, s1, n1⟩ := en
        unfold oweE at HC
        (try dsimp only at c0 c1 c2 HC)
        (try dsimp only at c3)
        go_wp2_with fail
        refine HC.out.mono ?_
        rintro e w' ⟨rfl, hb'⟩
        dsimp only
        go_wp2
        go_roundw
        case rel => exact ⟨t + 1, by go_num, by omega, hideIt ⟨HF.out, hb'⟩⟩
        case measure => simp [intOf]; omega
      · rw [hq] at HC
        have HF : Hid (idxI p l = (t : Int)) := by
          show _ = _
          unfold idxI
          rw [HR.out.1, fi_hit hlt hq]
          simp
        clear HR hq
        generalize l[t] = en at *
        obtain ⟨a1, s1, n1⟩ := en
        unfold oweE at HC
        (try dsimp only at c0 c1 c2 HC)
        (try dsimp only at c3)
        go_wp2_with fail
        refine HC.out.mono ?_
        rintro e w' ⟨rfl, hb'⟩
        dsimp only
        go_wp2
        go_ret
        exact ⟨by rw [HF.out]; rfl, hb'⟩
    · have hltI : ¬ (t : Int) < (l.length : Int) := by omega
      have HF : Hid (idxI p l = -1) := by
        show _ = _
        unfold idxI
        rw [HR.out.1, List.drop_of_length_le (by omega)]
        rfl
      have HB := hideIt HR.out.2
      clear HR HP HH
      go_wp2
      go_ret
      exact ⟨by rw [HF.out]; rfl, HB.out⟩
set_option maxHeartbeats 4000000 in
theorem containsO_is (g : Nat) (lb : Array Value) (eg : ∀ args w, (callFunc g args).run Tryz.prog w = .ok (.enter g args) w) (v : Value) (l : List OrdV) (p : OrdV → Bool) (w : World) (h : Ords w v l) (hp : PredB g lb ordE p w) :
    Calls Tryz.prog 90 #[v, .func (.func g) #[] lb] w fun e w' => e = .returned (.bool (l.any p)) ∧ Below w.heap.size w w' := by
  have HC := hideIt (indexO_is g lb eg v l p w h hp)
  obtain ⟨a, c, rfl, h8, hr⟩ := h.ords
  clear hr h hp
  have HE := hideIt (idx_any p l)
  generalize idxI p l = r at *
  generalize l.any p = q at *
  go_enter Tryz.func90, Tryz.ntmps90
  go_wp2_with fail
  refine HC.out.mono ?_
  rintro e w1 ⟨rfl, hb⟩
  dsimp only
  go_wp2
  go_ret
  exact ⟨by rw [HE.out]; rfl, hb⟩
set_option maxHeartbeats 4000000 in
theorem containsW_is (g : Nat) (lb : Array Value) (eg : ∀ args w, (callFunc g args).run Tryz.prog w = .ok (.enter g args) w) (v : Value) (l : List OweV) (p : OweV → Bool) (w : World) (h : Owes w v l) (hp : PredB g lb oweE p w) :
    Calls Tryz.prog 97 #[v, .func (.func g) #[] lb] w fun e w' => e = .returned (.bool (l.any p)) ∧ Below w.heap.size w w' := by
  have HC := hideIt (indexW_is g lb eg v l p w h hp)
  obtain ⟨a, c, rfl, h8, hr⟩ := h.owes
  clear hr h hp
  have HE := hideIt (idx_any p l)
  generalize idxI p l = r at *
  generalize l.any p = q at *
  go_enter Tryz.func97, Tryz.ntmps97
  go_wp2_with fail
  refine HC.out.mono ?_
  rintro e w1 ⟨rfl, hb⟩
  dsimp only
  go_wp2
  go_ret
  exact ⟨by rw [HE.out]; rfl, hb⟩
end Go.Proofs.YtiinigifjdpicaaGreatDoor
