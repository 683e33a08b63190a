/- What a wheel's drop leaves. -/
import Derived.Test.YtebinckkghmkhaaNew
import Derived.Deep.RegionHeld3
import Derived.Deep.RegionLaw
namespace Go.Proofs.Ytebinckkghmkhaa
open Go.RowKit

theorem put_dueOf (S : Wh) (k : Nat) : put (dueOf S.now S.left) k 0 = dueOf (dropS S k).now (dropS S k).left := by
  funext i
  simp only [put, dropS, dueOf]
  by_cases e : i = k
  · simp [e]
  · simp [e]
theorem Mem.wide {w : World} {F G : Nat → Prop} {p keys now : Nat} {due : Nat → Nat} {L : Nat → List Nat} {sb : Nat → Option (Nat × Nat)} {cs : Array Value} (h : Mem w F p keys now due L sb cs) (hG : ∀ i, F i → G i) (hs : ∀ i, G i → i < w.heap.size) : Mem w G p keys now due L sb cs :=
  ⟨h.cells, h.size, h.c0, h.c1, h.cslot, h.cdue, h.rows, fun a ha g c e => ⟨hG g (h.own a ha g c e).1, (h.own a ha g c e).2⟩, h.apart, hG p h.inp, hs⟩
theorem cell_alloc {w : World} {o : Obj} {p j : Nat} (h : p < w.heap.size) : (w.alloc o).cell? ⟨p, j, none⟩ = w.cell? ⟨p, j, none⟩ := by
  unfold World.cell?
  simp only
  rw [heap_alloc_old w o h]
set_option maxHeartbeats 4000000 in
set_option maxRecDepth 100000 in
theorem drop_is {w : World} {F : Nat → Prop} {p : Nat} {S : Wh} (h : WheelAt w F p S) (k : Nat) (hk : k < S.keys) (hN : S.now < 1000000000) :
    Calls Try.prog 22 #[.pointer (some ⟨p, 0, none⟩), .int .i64 (k : Int)] w fun e w' => (∃ v, e = .returned v) ∧ WheelAt w' F p (dropS S k) ∧ Out F w w' := by
  have h2 : WheelAt (w.alloc (.cells #[.int .i64 (k : Int)] 3)) F p S := h.keep (by simp) (fun i _ hi => heap_alloc_old w _ hi)
  have hsm := h.small
  have HH := hideIt h2
  obtain ⟨L, sb, cs, hm, hg⟩ := h2
  have hk1 : k < 100 := by have := hg.most; omega
  have hp : p < w.heap.size := hsm p hm.inp
  have hl := hg.left k
  by_cases h1 : S.left k = 0
  · have e0 := hg.drop0 k h1
    rw [e0]
    have cd : w.cell? ⟨p, 1002 + k, none⟩ = some (.int .i64 0) := by
      have := hm.cdue k hk1
      rw [(dueOf_zero S k).2 h1, ← cell_at hm.cells] at this
      rwa [cell_alloc hp] at this
    clear hm hg e0 h
    go_enter Try.func22, Try.ntmps22
    go_wp2
    go_quiet (fail)
    go_wp2
    refine bodyPost_ret (results_none rfl _ _ _) rfl ⟨⟨_, rfl⟩, HH.out.below (below_drewN (Below.refl _ _) _), (Out.ofAlloc w _).trans (Out.ofBelow (F := F) (below_drewN (Below.refl _ _) _)) (fun _ _ h => h)⟩
  · have e1 : dueOf S.now S.left k = S.now + S.left k := by unfold dueOf; rw [if_neg h1]
    have cd : w.cell? ⟨p, 1002 + k, none⟩ = some (.int .i64 ((S.now + S.left k : Nat) : Int)) := by
      have := hm.cdue k hk1
      rw [e1, ← cell_at hm.cells] at this
      rwa [cell_alloc hp] at this
    have hgd := hg.drop k h1
    have hd0 : (((S.now + S.left k : Nat) : Int) == 0) = false := beq_eq_false_iff_ne.2 (by omega)
    have hd1 : S.now + S.left k < 4611686018427387904 := by omega
    have hin := hg.slot k h1
    have ha : (S.now + S.left k) % 1000 < 1000 := Nat.mod_lt _ (by decide)
    have hlen := hg.len _ ha
    have HM := hideIt hm
    have HG := hideIt hgd
    generalize hdd : S.now + S.left k = d at *
    have HS := hideIt (fun W => slotOf_is d W hd1)
    generalize haa : d % 1000 = a at *
    have HA := hideIt haa
    clear hm hg hgd e1 h hdd haa hl h1
    go_enter Try.func22, Try.ntmps22
    go_wp2
    go_quiet (fail)
    go_wp2
    generalize hW : (w.alloc _).drewN _ = W
    have cW : W.cell? ⟨p, 1002 + k, none⟩ = some (.int .i64 (d : Int)) := by rw [← hW]; simp [cell_alloc hp, cd]
    have cK : W.cell? ⟨w.heap.size, 0, none⟩ = some (.int .i64 (k : Int)) := by rw [← hW]; simp
    have HW := hideIt hW
    clear hW
    go_quiet (first | (go_at_call 23; exact Calls.quiet_of_same (HS.out _)))

    generalize hW2 : W.drewN _ = W2
    have hm2 : Mem W2 F p S.keys S.now (dueOf S.now S.left) L sb cs := by
      rw [← hW2, ← HW.out]
      exact (HM.out.keep (Nat.le_refl _) (fun _ _ _ => rfl)).keep (Nat.le_refl _) (fun _ _ _ => rfl)
    have cK2 : W2.cell? ⟨w.heap.size, 0, none⟩ = some (.int .i64 (k : Int)) := by rw [← hW2]; simpa using cK
    have hs2 : W2.heap.size = w.heap.size + 1 := by rw [← hW2, ← HW.out]; simp
    have o2 : Out F w W2 := by
      rw [← hW2, ← HW.out]
      exact (Out.ofAlloc w _).trans (Out.ofBelow (F := F) (below_drewN (below_drewN (Below.refl _ _) _) _)) (fun _ _ h => h)
    clear cW cK HW hW2 HH HM HS
    have hrow := hm2.rows a ha
    obtain ⟨g, cap, hsb⟩ : ∃ g cap, sb a = some (g, cap) := by
      cases hsb : sb a with
      | none => rw [hsb] at hrow; have : L a = [] := hrow; rw [this] at hin; cases hin
      | some gc => exact ⟨gc.1, gc.2, rfl⟩
    rw [hsb] at hrow
    have hrow2 : IRow W2 g cap (L a) := hrow
    have hgo := hm2.own a ha g cap hsb
    have hgs : g < w.heap.size := hsm g hgo.1
    have cs2 : W2.cell? ⟨p, 2 + a, none⟩ = some (.slice (some ⟨g, 0, none⟩) (L a).length cap) := by
      rw [cell_at hm2.cells, hm2.cslot a ha, hsb]; rfl
    have fr2 : ∀ wx, Out (fun i => i = g) W2 wx → wx.cell? ⟨p, 2 + a, none⟩ = some (.slice (some ⟨g, 0, none⟩) (L a).length cap) ∧ wx.frozen? ⟨p, 2 + a, none⟩ = false := by
      intro wx ho
      have e := (ho.block p (by omega) (fun e => hgo.2 e.symm)).trans hm2.cells
      exact ⟨by rw [cell_at e, hm2.cslot a ha, hsb]; rfl, free_at e _⟩
    have HD : Hid (∀ wx, Below W2.heap.size W2 wx → Calls Try.prog 29 #[.slice (some ⟨g, 0, none⟩) (L a).length cap, .func (.func 30) #[] #[.pointer (some ⟨w.heap.size, 0, none⟩)]] wx fun e w' => e = .returned (.slice (some ⟨g, 0, none⟩) (dropN (L a) k).length cap) ∧ IRow w' g cap (dropN (L a) k) ∧ Out (fun i => i = g) W2 w' ∧ w'.cell? ⟨p, 2 + a, none⟩ = some (.slice (some ⟨g, 0, none⟩) (L a).length cap) ∧ w'.frozen? ⟨p, 2 + a, none⟩ = false) := by
      intro wx hx
      have r1 : IRow wx g cap (L a) := hrow2.keep (hx.block g (by omega))
      have r2 : wx.cell? ⟨w.heap.size, 0, none⟩ = some (.int .i64 (k : Int)) := by rw [hx.cell (p := ⟨w.heap.size, 0, none⟩) (by show w.heap.size < _; omega)]; exact cK2
      refine (deleteFunc_any r1 w.heap.size k r2 (by omega) (by have := hx.size; omega) (by omega)).mono ?_
      rintro e w' ⟨rfl, hr, ho⟩
      have ho2 : Out (fun i => i = g) W2 w' := (Out.ofBelow hx).trans ho (fun _ _ h => h)
      exact ⟨rfl, hr, ho2, fr2 w' ho2⟩
    have HM := hideIt hm2
    have HR := hideIt hrow2
    have HO := hideIt o2
    have HB := hideIt hsb
    clear hm2 hrow hrow2 fr2 o2 hsb
    have ha0 : (0 : Int) ≤ (a : Int) := by omega
    have ha1 : (a : Int) < 1000 := by omega
    have hk0 : (0 : Int) ≤ (k : Int) := by omega
    have hk2 : (k : Int) < 100 := by omega
    have hmf : ∀ (fn : Fn) (first cap : Array Value) (w : World), (Instr.makeFunc fn first cap).run Try.prog w = .ok (.func fn first cap) w := fun _ _ _ _ => rfl
    go_wp2_with fail
    go_region_with (first | (go_at_call 29; refine (HD.out _ (by first | exact (Below.refl _ _).drew | exact Below.refl _ _)).mono ?_; rintro e w5 ⟨rfl, hr, ho, j1, f1⟩))
    all_goals
      have hm3 : Mem (w5.setCell ⟨p, 2 + a, none⟩ (.slice (some ⟨g, 0, none⟩) (dropN (L a) k).length cap)) (fun i => F i ∨ ∃ c, some (g, cap) = some (i, c)) p S.keys S.now (dueOf S.now S.left) (putL L a (dropN (L a) k)) (putB sb a (some (g, cap))) (cs.setIfInBounds (2 + a) (sval (dropN (L a) k) (some (g, cap)))) :=
        HM.out.setSlot a ha (dropN (L a) k) (some (g, cap)) (ho.mono (fun i e => ⟨cap, by rw [e]; exact HB.out⟩)) hr (fun g' c e => by cases e; exact .inl ⟨cap, HB.out⟩)
      have ck3 : (w5.setCell ⟨p, 2 + a, none⟩ (.slice (some ⟨g, 0, none⟩) (dropN (L a) k).length cap)).cell? ⟨w.heap.size, 0, none⟩ = some (.int .i64 (k : Int)) := by
        rw [← cK2]
        unfold World.cell?
        simp only
        rw [heap_set_other _ _ _ _ _ (by omega), ho.block _ (by omega) (by omega)]
      have o3 : Out F w (w5.setCell ⟨p, 2 + a, none⟩ (.slice (some ⟨g, 0, none⟩) (dropN (L a) k).length cap)) :=
        (HO.out.trans ho (fun i _ e => e ▸ hgo.1)).trans (Out.ofSet (F := F) _ _ _ HM.out.inp) (fun _ _ h => h)
      generalize w5.setCell ⟨p, 2 + a, none⟩ (.slice (some ⟨g, 0, none⟩) (dropN (L a) k).length cap) = W3 at *
      have cd3 : W3.cell? ⟨p, 1002 + k, none⟩ = some (.int .i64 (dueOf S.now S.left k : Int)) := by rw [cell_at hm3.cells]; exact hm3.cdue k hk1
      have fd3 : W3.frozen? ⟨p, 1002 + k, none⟩ = false := free_at hm3.cells _
      have HM3 := hideIt hm3
      have HO3 := hideIt o3
      have hpF := HM.out.inp
      clear hm3 o3 hr ho j1 f1 HD cs2 cK2
      go_wp2_with fail
      go_region
      go_wp2
    all_goals
      refine bodyPost_end (results_none rfl _ _ _) rfl ⟨⟨_, rfl⟩, ?_, ?_⟩
      · have hm4 := (HM3.out.setDue k 0 hk1).wide (G := F) (fun i hi => by
          rcases hi with hi | ⟨c, e⟩
          · exact hi
          · cases e; exact hgo.1) (fun i hi => Nat.lt_of_lt_of_le (hsm i hi) (by have := HO3.out.size; simpa using this))
        have hm5 := hm4.keep (w' := (W3.setCell ⟨p, 1002 + k, none⟩ (.int .i64 0)).drew) (Nat.le_refl _) (fun _ _ _ => rfl)
        rw [put_dueOf S k] at hm5
        exact ⟨_, _, _, hm5, HG.out⟩
      · exact (HO3.out.trans (Out.ofSet (F := F) _ ⟨p, 1002 + k, none⟩ _ hpF) (fun _ _ h => h)).trans (Out.ofDrew (F := F) _) (fun _ _ h => h)
end Go.Proofs.Ytebinckkghmkhaa
