/- The small calls of clear. -/
import Derived.Test.YtbpnnhalajbjnaaFun
import Derived.Test.YtbpnnhalajbjnaaChk
namespace Go.Proofs.Ytbpnnhalajbjnaa
open Go.RowKit
set_option linter.all false
set_option maxHeartbeats 4000000 in
set_option maxRecDepth 100000 in
theorem indexF_is (g : Nat) (lb : Array Value) (eg : ∀ args w, (callFunc g args).run Try.prog w = .ok (.enter g args) w) (v : Value) (l : List FillV) (p : FillV → Bool) (w : World) (h : Fils w v l) (hp : PredB g lb filE p w) :
    Calls Try.prog 45 #[v, .func (.func g) #[] lb] w fun e w' => e = .returned (.int .i64 (idxI p l)) ∧ Below w.heap.size w w' := by
  obtain ⟨a, c, rfl, h8, hr⟩ := h.fils
  have HH := hideIt hr
  have HP := hideIt hp
  clear hr h hp
  go_enter Try.func45, Try.ntmps45
  go_wp2
  go_loopw [5, 8] (fun _ v wr => ∃ t : Nat, v = .int .i64 t ∧ t ≤ l.length ∧ Hid (l.findIdx? p = ((l.drop t).findIdx? p).map (· + t) ∧ Below w.heap.size w wr)) (fun _ v _ => l.length - (intOf v).toNat)
  case atStart => exact ⟨0, rfl, Nat.zero_le _, hideIt ⟨by simp, Below.refl _ _⟩⟩
  case round =>
    obtain ⟨t, rfl, ht, HR⟩ := hrel
    by_cases hlt : t < l.length
    · have hltI : (t : Int) < (l.length : Int) := by omega
      have ht0 : (0 : Int) ≤ (t : Int) := by omega
      have hw : IntKind.i64.wrap ((t : Int) + 1) = (t : Int) + 1 := by rw [IntKind.wrap_i64]; omega
      obtain ⟨b, off, rfl, hbl, q0, q1, q2, q3⟩ := HH.out t hlt
      have hB := HR.out.2
      have hBS := hB.size
      have hblr : b < wr.heap.size := by omega
      have c0 := ((HR.out.2).cell (p := ⟨b, off + t * 4, none⟩) hbl).trans q0
      have c1 := ((HR.out.2).cell (p := ⟨b, off + t * 4 + 1, none⟩) hbl).trans q1
      have c2 := ((HR.out.2).cell (p := ⟨b, off + t * 4 + 2, none⟩) hbl).trans q2
      have c3 := ((HR.out.2).cell (p := ⟨b, off + t * 4 + 3, none⟩) hbl).trans q3
      clear q0 q1 q2 q3
      have HC := hideIt (HP.out wr l[t] hB)
      clear HH HP hB hBS hbl
      cases hq : p l[t]
      · rw [hq] at HC
        have HF : Hid (l.findIdx? p = ((l.drop (t + 1)).findIdx? p).map (· + (t + 1))) := by
          show _ = _
          rw [HR.out.1, fi_miss hlt hq, Option.map_map]
          congr 1
          funext x
          simp only [Function.comp]
          omega
        clear HR hq
        generalize l[t] = en at *
        obtain ⟨i1, a1, p1, l1⟩ := en
        unfold filE at HC
        (try dsimp only at c0 c1 c2 HC)
        (try dsimp only at c3)
        go_wp2_with fail
        refine HC.out.mono ?_
        rintro e w' ⟨rfl, hb'⟩
        dsimp only
        go_wp2
        go_roundw
        case rel => exact ⟨t + 1, by go_num, by omega, hideIt ⟨HF.out, hb'⟩⟩
        case measure => simp [intOf]; omega
      · rw [hq] at HC
        have HF : Hid (idxI p l = (t : Int)) := by
          show _ = _
          unfold idxI
          rw [HR.out.1, fi_hit hlt hq]
          simp
        clear HR hq
        generalize l[t] = en at *
        obtain ⟨i1, a1, p1, l1⟩ := en
        unfold filE at HC
        (try dsimp only at c0 c1 c2 HC)
        (try dsimp only at c3)
        go_wp2_with fail
        refine HC.out.mono ?_
        rintro e w' ⟨rfl, hb'⟩
        dsimp only
        go_wp2
        go_ret
        exact ⟨by rw [HF.out]; rfl, hb'⟩
    · have hltI : ¬ (t : Int) < (l.length : Int) := by omega
      have HF : Hid (idxI p l = -1) := by
        show _ = _
        unfold idxI
        rw [HR.out.1, List.drop_of_length_le (by omega)]
        rfl
      have HB := hideIt HR.out.2
      clear HR HP HH
      go_wp2
      go_ret
      exact ⟨by rw [HF.out]; rfl, HB.out⟩
set_option maxHeartbeats 4000000 in
theorem containsF_is (g : Nat) (lb : Array Value) (eg : ∀ args w, (callFunc g args).run Try.prog w = .ok (.enter g args) w) (v : Value) (l : List FillV) (p : FillV → Bool) (w : World) (h : Fils w v l) (hp : PredB g lb filE p w) :
    Calls Try.prog 23 #[v, .func (.func g) #[] lb] w fun e w' => e = .returned (.bool (l.any p)) ∧ Below w.heap.size w w' := by
  have HC := hideIt (indexF_is g lb eg v l p w h hp)
  obtain ⟨a, c, rfl, h8, hr⟩ := h.fils
  clear hr h hp
  have HE := hideIt (idx_any p l)
  generalize idxI p l = r at *
  generalize l.any p = q at *
  go_enter Try.func23, Try.ntmps23
  go_wp2_with fail
  refine HC.out.mono ?_
  rintro e w1 ⟨rfl, hb⟩
  dsimp only
  go_wp2
  go_ret
  exact ⟨by rw [HE.out]; rfl, hb⟩
set_option maxHeartbeats 1000000 in
theorem cWithin_is (x lo hi : Int) (w : World) : Calls Try.prog 46 #[.int .i64 x, .int .i64 lo, .int .i64 hi] w fun e w' => e = .returned (.bool (wiB x lo hi)) ∧ w' = w := by
  unfold wiB
  go_enter Try.func46, Try.ntmps46
  by_cases h1 : lo ≤ x
  · by_cases h2 : x ≤ hi
    · go_wp2
      go_ret
      exact ⟨by simp [h1, h2], rfl⟩
    · go_wp2
      go_ret
      exact ⟨by simp [h2], rfl⟩
  · go_wp2
    go_ret
    exact ⟨by simp; omega, rfl⟩
set_option maxHeartbeats 1000000 in
theorem cAccount_is (x : Int) (w : World) : Calls Try.prog 28 #[.int .i64 x] w fun e w' => e = .returned (.bool (wiB x 1 8)) ∧ w' = w := by
  have H := hideIt (fun W => cWithin_is x 1 8 W)
  go_enter Try.func28, Try.ntmps28
  go_wp2_with fail
  refine (H.out _).mono ?_
  rintro e w1 ⟨rfl, rfl⟩
  go_wp2
  go_ret
  exact ⟨rfl, rfl⟩
def strF (f : FillV) : Bool := !(wiB f.buyer 1 8) || !(wiB f.seller 1 8) || !(wiB f.price 1 1000000) || !(wiB f.n 1 1000000)
set_option maxHeartbeats 2000000 in
theorem cStrange_is (f : FillV) (w : World) : Calls Try.prog 24 #[.agg (filE f).toArray] w fun e w' => e = .returned (.bool (strF f)) ∧ Below w.heap.size w w' := by
  have HB := hideIt (below1 w (.cells (filE f).toArray 67))
  have H1 := hideIt (fun W => cAccount_is f.buyer W)
  have H2 := hideIt (fun W => cAccount_is f.seller W)
  have H3 := hideIt (fun W => cWithin_is f.price 1 1000000 W)
  have H4 := hideIt (fun W => cWithin_is f.n 1 1000000 W)
  unfold strF
  obtain ⟨fb, fs, fp, fn⟩ := f
  unfold filE at *
  simp only at *
  go_enter Try.func24, Try.ntmps24
  go_wp2_with fail
  refine (H1.out _).mono ?_
  rintro e wq ⟨rfl, hwq⟩
  replace hwq := hwq.symm
  subst hwq
  dsimp only
  cases h1 : wiB fb 1 8
  · go_wp2
    go_ret
    exact ⟨by simp [h1], HB.out⟩
  · go_wp2_with fail
    refine (H2.out _).mono ?_
    rintro e wq ⟨rfl, hwq⟩
    replace hwq := hwq.symm
    subst hwq
    dsimp only
    cases h2 : wiB fs 1 8
    · go_wp2
      go_ret
      exact ⟨by simp [h1, h2], HB.out⟩
    · go_wp2_with fail
      refine (H3.out _).mono ?_
      rintro e wq ⟨rfl, hwq⟩
      replace hwq := hwq.symm
      subst hwq
      dsimp only
      cases h3 : wiB fp 1 1000000
      · go_wp2
        go_ret
        exact ⟨by simp [h1, h2, h3], HB.out⟩
      · go_wp2_with fail
        refine (H4.out _).mono ?_
        rintro e wq ⟨rfl, hwq⟩
        replace hwq := hwq.symm
        subst hwq
        dsimp only
        cases h4 : wiB fn 1 1000000
        · go_wp2
          go_ret
          exact ⟨by simp [h1, h2, h3, h4], HB.out⟩
        · go_wp2
          go_ret
          exact ⟨by simp [h1, h2, h3, h4], HB.out⟩
theorem eg24 : ∀ args w, (callFunc 24 args).run Try.prog w = .ok (.enter 24 args) w := by
  intro args w
  kernel_rfl
theorem anyStrange_is (v : Value) (l : List FillV) (w : World) (h : Fils w v l) : Calls Try.prog 23 #[v, .func (.func 24) #[] #[]] w fun e w' => e = .returned (.bool (l.any strF)) ∧ Below w.heap.size w w' :=
  containsF_is 24 #[] eg24 v l strF w h (fun W x hW => (cStrange_is x W).mono (fun _ _ h => ⟨h.1, below_via hW h.2⟩))
end Go.Proofs.Ytbpnnhalajbjnaa
