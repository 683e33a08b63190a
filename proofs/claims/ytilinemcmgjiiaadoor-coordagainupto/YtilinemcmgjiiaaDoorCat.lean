/- slices.Grow and slices.Concat at sessions. -/
import Derived.Test.YtilinemcmgjiiaaDoorLis
import Derived.Lib.AppendZeros
namespace Go.Proofs.YtilinemcmgjiiaaDoor
open Go.RowKit
set_option linter.all false
theorem drew_size (w : World) : w.drew.heap.size = w.heap.size := rfl
set_option maxHeartbeats 4000000 in
theorem grow_is (n : Nat) (w : World) (hn : n ≤ 1000) : Calls Tryd.prog 84 #[.slice none 0 0, .int .i64 (n : Int)] w fun e w' => ∃ v, e = .returned v ∧ w'.ownsRow w.heap.size 133 7 v 0 [] ∧ Below w.heap.size w w' := by
  rcases Nat.eq_zero_or_pos n with rfl | hp
  · go_enter Tryd.func84, Tryd.ntmps84
    go_wp2
    go_ret
    exact ⟨_, rfl, ⟨rfl, .inl ⟨rfl, rfl⟩⟩, Below.refl _ _⟩
  · obtain ⟨i, hi, hz0, hz1, hz2⟩ := info_parts info69
    have hrun := Lib.run_append_nil_zeros (P := Tryd.prog) w 109 3 109 133 i _ .i64 .i64 Tryd.underlying109 Tryd.underlying3 hi hz0 n hp (by omega) (by omega) (by rw [hz2]; omega)
    have hcap := grownCap_ge w n 0 133
    have hcm := grownCap_le_maxLen w n 0 133 (by unfold maxLen; omega)
    generalize grownCap w n 0 133 = cap at *
    obtain ⟨W, HRUN, hH⟩ : ∃ W, Hid ((Builtin.append_ #[109, 3] 109 #[.slice none 0 0, .int .i64 (n : Int)]).run Tryd.prog w = .ok (.slice (some ⟨w.heap.size, 0, none⟩) n cap) W) ∧ Hid (W.ownsRow w.heap.size 133 7 (.slice (some ⟨w.heap.size, 0, none⟩) 0 cap) 0 [] ∧ Below w.heap.size w W) := by
      refine ⟨_, hrun, ⟨rfl, .inr ⟨w.heap.size, cap, _, rfl, Nat.le_refl _, heap_alloc_new w.drew _, Nat.zero_le _, hcm, ?_, by simp⟩⟩, (Below.refl _ w).drew.alloc (Nat.le_refl _) _⟩
      rw [Array.size_append, size_zeroCells, size_zeroCells]
      show n * 7 + (cap - n) * 7 = cap * 7
      omega
    have hnI : (0 : Int) < (n : Int) := by omega
    have hn0 : ¬ ((n : Int) < 0) := by omega
    have hcapI : (0 : Int) ≤ (cap : Int) := by omega
    clear hi hz0 hz1 hz2 hcm hrun
    go_enter Tryd.func84, Tryd.ntmps84
    go_wp2_with (at_builtin; refine Lib.wpList_append_run _ rfl _ _ _ _ rfl _ _ rfl rfl _ _ HRUN.out ?_)
    clear HRUN
    go_wp2
    go_ret
    exact ⟨_, rfl, hH.out.1, hH.out.2⟩
/-- Lists of sessions in a list. -/
def LsGot (w : World) (v : Value) (gs : List Value) (ls : List (List SesX)) : Prop :=
  gs.length = ls.length ∧ ∃ a c, v = .slice a ls.length c ∧ ∀ j (h : j < ls.length) (h2 : j < gs.length), ∃ b off, a = some ⟨b, off, none⟩ ∧ b < w.heap.size ∧ w.cell? ⟨b, off + j, none⟩ = some gs[j] ∧ SGot 7 88 sesE w gs[j] ls[j]
theorem flat_step (ls : List (List SesX)) (t : Nat) (h : t < ls.length) : (ls.take (t + 1)).flatten = (ls.take t).flatten ++ ls[t] := by
  rw [List.take_succ_eq_append_getElem h, List.flatten_append]
  simp
theorem flat_le (ls : List (List SesX)) (t : Nat) : (ls.take t).flatten.length ≤ ls.flatten.length := by
  have : ls.flatten.length = (ls.take t).flatten.length + (ls.drop t).flatten.length := by
    rw [← List.length_append, ← List.flatten_append, List.take_append_drop]
  omega
set_option maxHeartbeats 8000000 in
set_option maxRecDepth 100000 in
theorem concat_is (v : Value) (gs : List Value) (ls : List (List SesX)) (l : List SesX) (hf : ls.flatten = l) (w : World) (h : LsGot w v gs ls) (hl : l.length ≤ 1000) (hll : ls.length ≤ 1000) : Calls Tryd.prog 76 #[v] w fun e w' => ∃ r, e = .returned r ∧ w'.ownsRow w.heap.size 133 7 r l.length (celC sesE l) ∧ Below w.heap.size w w' := by
  obtain ⟨hgl, a, c, rfl, hr⟩ := h
  have HR := hideIt hr
  have HG := hideIt (grow_is l.length w hl)
  have HF := hideIt (flat_step ls)
  have HFL := hideIt (flat_le ls)
  rw [hf] at HFL
  have HHF := hideIt hf
  clear hf
  clear hr
  go_enter Tryd.func76, Tryd.ntmps76
  go_wp2
  go_loopw [3, 11] (fun u x wr => ∃ t : Nat, u = .int .i64 ((ls.take t).flatten.length : Int) ∧ x = .int .i64 t ∧ t ≤ ls.length ∧ wr = w) (fun _ x _ => ls.length - (intOf x).toNat)
  case atStart => exact ⟨0, rfl, rfl, Nat.zero_le _, rfl⟩
  case round =>
    obtain ⟨t, rfl, rfl, ht, hw⟩ := hrel
    have hw2 := hw.symm
    subst hw2
    clear hw
    by_cases hlt : t < ls.length
    · have hltI : (t : Int) < (ls.length : Int) := by omega
      have ht0 : (0 : Int) ≤ (t : Int) := by omega
      obtain ⟨b, off, rfl, hbl, q0, hE⟩ := HR.out t hlt (by omega)
      obtain ⟨ga, gc, hg⟩ := hE.slice
      rw [hg] at q0
      have h1 := HFL.out t
      have h2 := HFL.out (t + 1)
      have h3 : ((ls.take (t + 1)).flatten.length : Int) = ((ls.take t).flatten.length : Int) + (ls[t].length : Int) := by
        rw [HF.out t hlt, List.length_append]
        omega
      have H3 := hideIt h3
      generalize ((ls.take t).flatten.length) = n1 at *
      generalize (ls[t]).length = n2 at *
      have h4 : n1 + n2 ≤ 1000 := by omega
      have h5 : ¬ ((n1 : Int) + (n2 : Int) < 0) := by omega
      clear hE h1 h2 h3
      go_wp2
      go_roundw
      case rel => exact ⟨t + 1, by rw [H3.out], by go_num, by omega, by first | rfl | trivial⟩
      case measure => simp [intOf]; omega
    · have hltI : ¬ (t : Int) < (ls.length : Int) := by omega
      have ht9 : ls.take t = ls := List.take_of_length_le (by omega)
      rw [ht9, HHF.out]
      go_wp2_with fail
      refine HG.out.mono ?_
      rintro e w1 ⟨v0, rfl, ho, hb⟩
      dsimp only
      have HO := hideIt (And.intro ho hb)
      clear ho hb HG ht9
      go_wp2
      go_loopw [6, 27] (fun u x wr => ∃ t : Nat, x = .int .i64 t ∧ t ≤ ls.length ∧ Hid (wr.ownsRow w.heap.size 133 7 u (ls.take t).flatten.length (celC sesE (ls.take t).flatten) ∧ Below w.heap.size w wr)) (fun _ x _ => ls.length - (intOf x).toNat)
      case atStart => exact ⟨0, rfl, Nat.zero_le _, HO⟩
      case round =>
        clear HO
        obtain ⟨s, rfl, hs, HO⟩ := hrel
        by_cases hls : s < ls.length
        · have hlsI : (s : Int) < (ls.length : Int) := by omega
          have hs0 : (0 : Int) ≤ (s : Int) := by omega
          obtain ⟨b, off, rfl, hbl, q0, hE⟩ := HR.out s hls (by omega)
          have q1 := (HO.out.2.cell (p := ⟨b, off + s, none⟩) hbl).trans q0
          have h2 := HFL.out (s + 1)
          rw [HF.out s hls, List.length_append] at h2
          obtain ⟨v', w', hrun, how, hgr⟩ := appG (enc := sesE) (t := 109) sesK ses1 Tryd.underlying109 info69 rfl (by omega) (by omega) wr w.heap.size u6 gs[s] (ls.take s).flatten ls[s] HO.out.2.size HO.out.1 (hE.keep HO.out.2) (by omega)
          rw [← HF.out s hls] at how
          have HN := hideIt (And.intro how (grown_own hgr HO.out.1 (Nat.le_refl _) HO.out.2))
          generalize gs[s] = gv at *
          have HRUN := hideIt hrun
          clear hrun how hgr q0 hE h2 HO
          go_wp2_with (at_builtin; refine Lib.wpList_append_run _ rfl _ _ _ _ rfl _ _ rfl rfl _ _ HRUN.out ?_)
          clear HRUN q1
          go_wp2
          go_roundw
          case rel => exact ⟨s + 1, by go_num, by omega, HN⟩
          case measure => simp [intOf]; omega
        · have hlsI : ¬ (s : Int) < (ls.length : Int) := by omega
          have hs9 : ls.take s = ls := List.take_of_length_le (by omega)
          rw [hs9, HHF.out] at HO
          go_wp2
          go_ret
          exact ⟨_, rfl, HO.out.1, HO.out.2⟩
theorem SGot.part {α : Type} {k bytes : Nat} {enc : α → List Value} (hk : ∀ x, (enc x).length = k) {w : World} {a : Option Addr} {c : Nat} {l : List α} (h : SGot k bytes enc w (.slice a l.length c) l) (p n c2 : Nat) (hp : p + n ≤ l.length) (hc2 : n ≤ c2 ∧ c2 ≤ maxLen) (a2 : Option Addr) (ha : 0 < n → ∀ b off, a = some ⟨b, off, none⟩ → a2 = some ⟨b, off + p * k, none⟩) : SGot k bytes enc w (.slice a2 n c2) ((l.drop p).take n) := by
  have hlen : ((l.drop p).take n).length = n := by
    rw [List.length_take, List.length_drop]
    omega
  obtain ⟨h8, a', c', e, _, hr⟩ := h
  simp only [Value.slice.injEq] at e
  obtain ⟨rfl, _, _⟩ := e
  refine ⟨?_, a2, c2, by rw [hlen], by rw [hlen]; exact hc2, fun hp0 => ?_⟩
  · rw [hlen]
    exact Nat.le_trans (Nat.mul_le_mul_right _ (by omega)) h8
  rw [hlen] at hp0
  obtain ⟨b, off, rfl, hlt, hc⟩ := hr (by omega)
  refine ⟨b, off + p * k, ha hp0 b off rfl, hlt, fun j hj => ?_⟩
  rw [hlen] at hj
  have hpj : p * k + j < l.length * k := by
    have : p * k + n * k ≤ l.length * k := by rw [← Nat.add_mul]; exact Nat.mul_le_mul_right _ hp
    omega
  rw [show off + p * k + j = off + (p * k + j) by omega, hc (p * k + j) hpj]
  have e1 : celC enc l = celC enc (l.take p) ++ (celC enc ((l.drop p).take n) ++ celC enc ((l.drop p).drop n)) := by
    rw [← celC_app, ← celC_app, List.take_append_drop, List.take_append_drop]
  have l1 : (celC enc (l.take p)).length = p * k := by
    rw [celC_len hk, List.length_take]
    congr 1
    omega
  rw [e1, List.getElem?_append_right (by omega), l1, Nat.add_sub_cancel_left, List.getElem?_append_left (by rw [celC_len hk, hlen]; exact hj)]
end Go.Proofs.YtilinemcmgjiiaaDoor
