/- clear.Net, walked. -/
import Derived.Test.YtbpnnhalajbjnaaSm
import Derived.Test.YtbpnnhalajbjnaaMap
import Derived.Test.YtbpnnhalajbjnaaCop
namespace Go.Proofs.Ytbpnnhalajbjnaa
open Go.RowKit Go.Maps
set_option linter.all false
/-- What a fill adds. -/
def addS (f : Sums) (x : Int) (m g : Int) : Sums := updS f x (((f x).getD (0, 0)).1 + m, ((f x).getD (0, 0)).2 + g)
structure Small (c : Nat) (f : Sums) : Prop where
  lo : ∀ x p, f x = some p → -(c : Int) * 1000000000000 ≤ p.1 ∧ p.1 ≤ (c : Int) * 1000000000000 ∧ -(c : Int) * 1000000000000 ≤ p.2 ∧ p.2 ≤ (c : Int) * 1000000000000
theorem Small.add {c : Nat} {f : Sums} {x m g : Int} (h : Small c f) (hm : -1000000000000 ≤ m ∧ m ≤ 1000000000000) (hg : -1000000000000 ≤ g ∧ g ≤ 1000000000000) : Small (c + 1) (addS f x m g) := by
  refine ⟨fun y p hy => ?_⟩
  unfold addS updS at hy
  by_cases e : y = x
  · rw [if_pos e] at hy
    cases hy
    cases hf : f x with
    | none => simp; omega
    | some q =>
      have := h.lo x q hf
      simp
      omega
  · rw [if_neg e] at hy
    have := h.lo y p hy
    omega
set_option maxHeartbeats 4000000 in
set_option maxRecDepth 100000 in
theorem add_is (mb c : Nat) (f : Sums) (x m g : Int) (w : World) (h : MP w mb c f) (hs : Small c f) (hc : c ≤ 100000) (hx : -9223372036854775808 ≤ x ∧ x ≤ 9223372036854775807) (hm : -1000000000000 ≤ m ∧ m ≤ 1000000000000) (hg : -1000000000000 ≤ g ∧ g ≤ 1000000000000) : Calls Try.prog 25 #[.map (some mb), .int .i64 x, .int .i64 m, .int .i64 g] w fun e w' => e = .returned (.tuple #[]) ∧ MP w' mb (c + 1) (addS f x m g) ∧ Out (fun k => k = mb) w w' := by
  have hwf := wf64 x hx.1 hx.2
  have hl := h.look x hwf
  have hb : ((f x).getD (0, 0)).1 + m ≤ 4611686018427387904 ∧ -4611686018427387904 ≤ ((f x).getD (0, 0)).1 + m ∧ ((f x).getD (0, 0)).2 + g ≤ 4611686018427387904 ∧ -4611686018427387904 ≤ ((f x).getD (0, 0)).2 + g := by
    cases hf : f x with
    | none => simp; omega
    | some q =>
      have := hs.lo x q hf
      simp
      omega
  obtain ⟨fm, fg, hq⟩ : ∃ fm fg, (f x).getD (0, 0) = (fm, fg) := ⟨_, _, rfl⟩
  obtain ⟨y, hl2⟩ : ∃ y, (Instr.lookup 70 (.map (some mb)) (.int .i64 x) false).run Try.prog w = .ok (.agg #[.int .i64 y, .int .i64 fm, .int .i64 fg]) w := by
    rw [hl]
    cases hf : f x with
    | none =>
      rw [hf] at hq
      cases hq
      exact ⟨0, rfl⟩
    | some p =>
      rw [hf] at hq
      simp at hq
      subst hq
      exact ⟨x, rfl⟩
  rw [hq] at hb
  dsimp only at hb
  have hw1 : IntKind.i64.wrap (fm + m) = fm + m := by rw [IntKind.wrap_i64]; omega
  have hw2 : IntKind.i64.wrap (fg + g) = fg + g := by rw [IntKind.wrap_i64]; omega
  obtain ⟨w', hrun, hM, hgr⟩ := MP.store (h.keep (below1 w (.cells #[.int .i64 y, .int .i64 fm, .int .i64 fg] 31))) (by omega) x hwf (fm + m, fg + g)
  have HF : Hid (MP w' mb (c + 1) (addS f x m g) ∧ Out (fun k => k = mb) w w') := by
    refine ⟨?_, (Out.ofAlloc w _).trans (Out.ofGrown hgr (fun k e => by cases e; rfl)) (fun _ _ h => h)⟩
    unfold addS
    rw [hq]
    exact hM
  unfold posV at hrun
  dsimp only at hrun
  clear hM hgr hl h hs hq hb
  go_enter Try.func25, Try.ntmps25
  go_wp2
  go_end0
  exact ⟨rfl, HF.out⟩
/-- The positions of the first accounts. -/
def posT (f : Sums) (t : Nat) : List PosV := (List.range t).filterMap (fun k : Nat => (f ((k : Int) + 1)).map (fun p => ⟨(k : Int) + 1, p.1, p.2⟩))
theorem posT_succ (f : Sums) (t : Nat) : posT f (t + 1) = posT f t ++ (match f ((t : Int) + 1) with | some p => [⟨(t : Int) + 1, p.1, p.2⟩] | none => []) := by
  unfold posT
  rw [List.range_succ, List.filterMap_append]
  congr 1
  cases h : f ((t : Int) + 1) <;> simp [h]
theorem posT_len (f : Sums) : ∀ t, (posT f t).length ≤ t
  | 0 => by simp [posT]
  | t + 1 => by
    have := posT_len f t
    rw [posT_succ, List.length_append]
    split <;> simp <;> omega
set_option maxHeartbeats 4000000 in
set_option maxRecDepth 100000 in
theorem positions_is (mb c : Nat) (f : Sums) (w : World) (h : MP w mb c f) : Calls Try.prog 26 #[.map (some mb)] w fun e w' => ∃ a cc, e = .returned (.slice a (posT f 8).length cc) ∧ w'.ownsRow w.heap.size 31 3 (.slice a (posT f 8).length cc) (posT f 8).length (celC posE (posT f 8)) ∧ Below w.heap.size w w' := by
  have HM := hideIt (fun W (hW : Below w.heap.size w W) => h.keep hW)
  have HS := hideIt (fun t => posT_succ f t)
  have HLN := hideIt (fun t => posT_len f t)
  have H0 : Hid (w.ownsRow w.heap.size 31 3 (.slice none 0 0) (posT f 0).length (celC posE (posT f 0)) ∧ Below w.heap.size w w) := ⟨by simpa [posT, celC] using own_nil (k := 3) (e := 31) w w.heap.size, Below.refl _ _⟩
  have HZ : Hid ((posT f 0).length = 0) := by show _ = _; simp [posT]
  clear h
  generalize hPT : posT f = PT at *
  clear hPT
  go_enter Try.func26, Try.ntmps26
  go_wp2
  go_loopw [3, 4] (fun u v wr => ∃ t : Nat, ∃ ua un uc, u = .slice ua un uc ∧ v = .int .i64 ((t : Int) + 1) ∧ t ≤ 8 ∧ un = (PT t).length ∧ Hid (wr.ownsRow w.heap.size 31 3 (.slice ua un uc) (PT t).length (celC posE (PT t)) ∧ Below w.heap.size w wr)) (fun _ v _ => 9 - (RowKit.intOf v).toNat)
  case atStart => exact ⟨0, none, 0, 0, rfl, rfl, by omega, HZ.out.symm, H0⟩
  case round =>
    clear H0 HZ
    obtain ⟨t, ua, un, uc, rfl, rfl, ht, hun, HP⟩ := hrel
    have hln := HLN.out t
    subst hun
    by_cases hlt : t < 8
    · have hltI : (t : Int) + 1 ≤ 8 := by omega
      have hw : IntKind.i64.wrap ((t : Int) + 1 + 1) = (t : Int) + 1 + 1 := by rw [IntKind.wrap_i64]; omega
      have hl := (HM.out wr HP.out.2).look_ok ((t : Int) + 1) (wf64 _ (by omega) (by omega))
      have hS := HS.out t
      cases hf : f ((t : Int) + 1) with
      | none =>
        rw [hf] at hl hS
        dsimp only [zeroP] at hl
        simp only [List.append_nil] at hS
        have Z : Hid ((wr.alloc (.cells #[.int .i64 0, .int .i64 0, .int .i64 0] 31)).ownsRow w.heap.size 31 3 (.slice ua (PT t).length uc) (PT (t + 1)).length (celC posE (PT (t + 1))) ∧ Below w.heap.size w (wr.alloc (.cells #[.int .i64 0, .int .i64 0, .int .i64 0] 31))) := ⟨by rw [hS]; exact own_keep HP.out.1 (below1 _ _), below_via HP.out.2 (below1 _ _)⟩
        have HE := hideIt hS
        clear hS HP hf HM
        go_wp2
        go_roundw
        case rel => exact ⟨t + 1, ua, _, uc, rfl, by congr 1, by omega, by rw [HE.out], Z⟩
        case measure => simp [RowKit.intOf]; omega
      | some p =>
        obtain ⟨pm, pg⟩ := p
        rw [hf] at hl hS
        dsimp only [posV] at hl hS
        have hb1 := below1 wr (.cells #[.int .i64 ((t : Int) + 1), .int .i64 pm, .int .i64 pg] 31)
        have O1 := hideIt (own_keep HP.out.1 hb1)
        have B1 := hideIt (below_via HP.out.2 hb1)
        have K1 := hideIt (heap_alloc_new wr (.cells #[.int .i64 ((t : Int) + 1), .int .i64 pm, .int .i64 pg] 31))
        have HS2 := hideIt hS
        clear hb1 hS HP hf HM
        go_upto_region 7 with fail
        clear hl
        generalize wr.alloc (.cells #[.int .i64 ((t : Int) + 1), .int .i64 pm, .int .i64 pg] 31) = W1 at *
        generalize wr.heap.size = kb at *
        have k0 : W1.cell? ⟨kb, 0, none⟩ = some (.int .i64 ((t : Int) + 1)) := by rw [cell_at K1.out]; rfl
        have k1 : W1.cell? ⟨kb, 1, none⟩ = some (.int .i64 pm) := by rw [cell_at K1.out]; rfl
        have k2 : W1.cell? ⟨kb, 2, none⟩ = some (.int .i64 pg) := by rw [cell_at K1.out]; rfl
        have hb2 := below1 W1 (.cells (posE ⟨(t : Int) + 1, pm, pg⟩).toArray 31)
        obtain ⟨v', w', hrun, how, hgr⟩ := app1 (enc := posE) (t := 23) posK pos1 Try.underlying23 info31 rfl (by omega) (W1.alloc (.cells (posE ⟨(t : Int) + 1, pm, pg⟩).toArray 31)) w.heap.size (.slice ua (PT t).length uc) (PT t) ⟨(t : Int) + 1, pm, pg⟩ W1.heap.size 1 (Nat.le_trans B1.out.size hb2.size) (own_keep O1.out hb2) (heap_alloc_new _ _) (by omega) (by unfold maxLen; omega)
        rw [← HS2.out] at how
        obtain ⟨a', c', rfl⟩ := own_len how
        obtain ⟨n1, hn1⟩ : ∃ n1, (PT (t + 1)).length = n1 := ⟨_, rfl⟩
        have Z : Hid (w'.ownsRow w.heap.size 31 3 (.slice a' n1 c') (PT (t + 1)).length (celC posE (PT (t + 1))) ∧ Below w.heap.size w w') := ⟨by rw [← hn1]; exact how, grown_own hgr (own_keep O1.out hb2) (Nat.le_refl _) (below_via B1.out hb2)⟩
        rw [hn1] at hrun
        have HRUN := hideIt hrun
        unfold posE at HRUN
        dsimp only at HRUN
        have HN2 := hideIt hn1
        clear hrun how hgr hb2 hn1 O1 B1 K1 HS2
        go_wp2_with (at_builtin; refine Lib.wpList_append_run _ rfl _ _ _ _ rfl _ _ rfl rfl _ _ HRUN.out ?_)
        clear HRUN
        go_wp2
        go_roundw
        case rel => first | exact ⟨t + 1, a', n1, c', rfl, by congr 1, by omega, HN2.out.symm, Z⟩ | ((repeat apply Exists.intro); exact ⟨⟨t + 1, a', n1, c', rfl, by congr 1, by omega, HN2.out.symm, Z⟩, rfl⟩)
        case measure => simp [RowKit.intOf]; omega
    · have hltI : ¬ (t : Int) + 1 ≤ 8 := by omega
      have het : t = 8 := by omega
      subst het
      clear HM HS HLN
      go_wp2
      go_ret
      exact ⟨_, _, rfl, HP.out⟩
end Go.Proofs.Ytbpnnhalajbjnaa
