/- Lists of entries put together in new memory, with texts of their own. -/
import Derived.Test.YtonhoopmhkomcaaMark
import Derived.Test.YtonhoopmhkomcaaClone
import Derived.Lib.AppendZeros
namespace Go.Proofs.Ytonhoopmhkomcaa
open Go.RowKit
theorem drew_size (w : World) : w.drew.heap.size = w.heap.size := rfl
set_option maxHeartbeats 4000000 in
theorem grow_is (n : Nat) (w : World) (hn : n ≤ 1000) : Calls Try.prog 53 #[.slice none 0 0, .int .i64 (n : Int)] w fun e w' => ∃ v, e = .returned v ∧ w'.ownsRow w.heap.size 40 3 v 0 [] ∧ Below w.heap.size w w' := by
  rcases Nat.eq_zero_or_pos n with rfl | hp
  · go_enter Try.func53, Try.ntmps53
    go_wp2
    go_ret
    exact ⟨_, rfl, ⟨rfl, .inl ⟨rfl, rfl⟩⟩, Below.refl _ _⟩
  · obtain ⟨i, hi, hz0, hz1, hz2⟩ := info_parts info39
    have hrun := Lib.run_append_nil_zeros (P := Try.prog) w 24 3 24 40 i _ .i64 .i64 Try.underlying24 Try.underlying3 hi hz0 n hp (by omega) (by omega) (by rw [hz2]; omega)
    have hcap := grownCap_ge w n 0 40
    have hcm := grownCap_le_maxLen w n 0 40 (by unfold maxLen; omega)
    generalize grownCap w n 0 40 = cap at *
    obtain ⟨W, HRUN, hH⟩ : ∃ W, Hid ((Builtin.append_ #[24, 3] 24 #[.slice none 0 0, .int .i64 (n : Int)]).run Try.prog w = .ok (.slice (some ⟨w.heap.size, 0, none⟩) n cap) W) ∧ Hid (W.ownsRow w.heap.size 40 3 (.slice (some ⟨w.heap.size, 0, none⟩) 0 cap) 0 [] ∧ Below w.heap.size w W) := by
      refine ⟨_, hrun, ⟨rfl, .inr ⟨w.heap.size, cap, _, rfl, Nat.le_refl _, heap_alloc_new w.drew _, Nat.zero_le _, hcm, ?_, by simp⟩⟩, (Below.refl _ w).drew.alloc (Nat.le_refl _) _⟩
      rw [Array.size_append, size_zeroCells, size_zeroCells]
      show n * 3 + (cap - n) * 3 = cap * 3
      omega
    have hnI : (0 : Int) < (n : Int) := by omega
    have hn0 : ¬ ((n : Int) < 0) := by omega
    have hcapI : (0 : Int) ≤ (cap : Int) := by omega
    clear hi hz0 hz1 hz2 hcm hrun
    go_enter Try.func53, Try.ntmps53
    go_wp2_with (at_builtin; refine Lib.wpList_append_run _ rfl _ _ _ _ rfl _ _ rfl rfl _ _ HRUN.out ?_)
    clear HRUN
    go_wp2
    go_ret
    exact ⟨_, rfl, hH.out.1, hH.out.2⟩
theorem EGot.slice {w : World} {v : Value} {l : List EntV} (h : EGot w v l) : ∃ a c, v = .slice a l.length c := by
  obtain ⟨a, c, e, _⟩ := h.open
  exact ⟨a, c, e⟩
/-- Lists of entries in a list. -/
def LsGot (w : World) (v : Value) (gs : List Value) (ls : List (List EntV)) : Prop :=
  gs.length = ls.length ∧ ∃ a c, v = .slice a ls.length c ∧ ∀ j (h : j < ls.length) (h2 : j < gs.length), ∃ b off, a = some ⟨b, off, none⟩ ∧ b < w.heap.size ∧ w.cell? ⟨b, off + j, none⟩ = some gs[j] ∧ EGot w gs[j] ls[j]
theorem flat_step (ls : List (List EntV)) (t : Nat) (h : t < ls.length) : (ls.take (t + 1)).flatten = (ls.take t).flatten ++ ls[t] := by
  rw [List.take_succ_eq_append_getElem h, List.flatten_append]
  simp
theorem flat_le (ls : List (List EntV)) (t : Nat) : (ls.take t).flatten.length ≤ ls.flatten.length := by
  have : ls.flatten.length = (ls.take t).flatten.length + (ls.drop t).flatten.length := by
    rw [← List.length_append, ← List.flatten_append, List.take_append_drop]
  omega
theorem grown_own {W w w' : World} {v : Value} {n : Nat} {xs : List Value} (h : w.grownBy w' v.ownBlock) (ho : w.ownsRow W.heap.size 40 3 v n xs) (hb : Below W.heap.size W w) : Below W.heap.size W w' := by
  refine below_out hb (Out.ofGrown (F := fun k => W.heap.size ≤ k) h (fun k hk => ?_)) (fun _ h => h)
  obtain ⟨_, ⟨rfl, _⟩ | ⟨g, cap, cur, rfl, hgB, _⟩⟩ := ho
  · cases hk
  · simp [Value.ownBlock] at hk
    omega
set_option maxHeartbeats 8000000 in
set_option maxRecDepth 100000 in
theorem concat_is (v : Value) (gs : List Value) (ls : List (List EntV)) (l : List EntV) (hf : ls.flatten = l) (w : World) (h : LsGot w v gs ls) (hl : l.length ≤ 1000) (hll : ls.length ≤ 1000) : Calls Try.prog 47 #[v] w fun e w' => ∃ r, e = .returned r ∧ w'.ownsRow w.heap.size 40 3 r l.length (entC l) ∧ Below w.heap.size w w' := by
  obtain ⟨hgl, a, c, rfl, hr⟩ := h
  have HR := hideIt hr
  have HG := hideIt (grow_is l.length w hl)
  have HF := hideIt (flat_step ls)
  have HFL := hideIt (flat_le ls)
  rw [hf] at HFL
  have HHF := hideIt hf
  clear hf
  clear hr
  go_enter Try.func47, Try.ntmps47
  go_wp2
  go_loopw [3, 11] (fun u x wr => ∃ t : Nat, u = .int .i64 ((ls.take t).flatten.length : Int) ∧ x = .int .i64 t ∧ t ≤ ls.length ∧ wr = w) (fun _ x _ => ls.length - (intOf x).toNat)
  case atStart => exact ⟨0, rfl, rfl, Nat.zero_le _, rfl⟩
  case round =>
    obtain ⟨t, rfl, rfl, ht, hw⟩ := hrel
    have hw2 := hw.symm
    subst hw2
    clear hw
    by_cases hlt : t < ls.length
    · have hltI : (t : Int) < (ls.length : Int) := by omega
      have ht0 : (0 : Int) ≤ (t : Int) := by omega
      obtain ⟨b, off, rfl, hbl, q0, hE⟩ := HR.out t hlt (by omega)
      obtain ⟨ga, gc, hg⟩ := hE.slice
      rw [hg] at q0
      have h1 := HFL.out t
      have h2 := HFL.out (t + 1)
      have h3 : ((ls.take (t + 1)).flatten.length : Int) = ((ls.take t).flatten.length : Int) + (ls[t].length : Int) := by
        rw [HF.out t hlt, List.length_append]
        omega
      have H3 := hideIt h3
      generalize ((ls.take t).flatten.length) = n1 at *
      generalize (ls[t]).length = n2 at *
      have h4 : n1 + n2 ≤ 1000 := by omega
      have h5 : ¬ ((n1 : Int) + (n2 : Int) < 0) := by omega
      clear hE h1 h2 h3
      go_wp2
      go_roundw
      case rel => exact ⟨t + 1, by rw [H3.out], by go_num, by omega, by first | rfl | trivial⟩
      case measure => simp [intOf]; omega
    · have hltI : ¬ (t : Int) < (ls.length : Int) := by omega
      have ht9 : ls.take t = ls := List.take_of_length_le (by omega)
      rw [ht9, HHF.out]
      go_wp2_with fail
      refine HG.out.mono ?_
      rintro e w1 ⟨v0, rfl, ho, hb⟩
      dsimp only
      have HO := hideIt (And.intro ho hb)
      clear ho hb HG ht9
      go_wp2
      go_loopw [6, 27] (fun u x wr => ∃ t : Nat, x = .int .i64 t ∧ t ≤ ls.length ∧ Hid (wr.ownsRow w.heap.size 40 3 u (ls.take t).flatten.length (entC (ls.take t).flatten) ∧ Below w.heap.size w wr)) (fun _ x _ => ls.length - (intOf x).toNat)
      case atStart => exact ⟨0, rfl, Nat.zero_le _, HO⟩
      case round =>
        clear HO
        obtain ⟨s, rfl, hs, HO⟩ := hrel
        by_cases hls : s < ls.length
        · have hlsI : (s : Int) < (ls.length : Int) := by omega
          have hs0 : (0 : Int) ≤ (s : Int) := by omega
          obtain ⟨b, off, rfl, hbl, q0, hE⟩ := HR.out s hls (by omega)
          have q1 := (HO.out.2.cell (p := ⟨b, off + s, none⟩) hbl).trans q0
          have h2 := HFL.out (s + 1)
          rw [HF.out s hls, List.length_append] at h2
          obtain ⟨v', w', hrun, how, hgr⟩ := run_app wr 24 w.heap.size u6 (ls.take s).flatten ls[s] gs[s] HO.out.2.size HO.out.1 (hE.keep HO.out.2) (by omega)
          rw [← HF.out s hls] at how
          have HN := hideIt (And.intro how (grown_own hgr HO.out.1 HO.out.2))
          generalize gs[s] = gv at *
          have HRUN := hideIt hrun
          clear hrun how hgr q0 hE h2 HO
          go_wp2_with (at_builtin; refine wpList_append_run _ rfl _ _ rfl rfl rfl rfl HRUN.out ?_)
          clear HRUN q1
          go_wp2
          go_roundw
          case rel => exact ⟨s + 1, by go_num, by omega, HN⟩
          case measure => simp [intOf]; omega
        · have hlsI : ¬ (s : Int) < (ls.length : Int) := by omega
          have hs9 : ls.take s = ls := List.take_of_length_le (by omega)
          rw [hs9, HHF.out] at HO
          go_wp2
          go_ret
          exact ⟨_, rfl, HO.out.1, HO.out.2⟩
/-- A cell that is written with what it holds. -/
theorem own_same {w : World} {B : Nat} {e : TypeId} {z n : Nat} {v : Value} {xs : List Value} (h : w.ownsRow B e z v n xs) (b j : Nat) (x : Value) (hx : w.cell? ⟨b, j, none⟩ = some x) : (w.setCell ⟨b, j, none⟩ x).ownsRow B e z v n xs := by
  obtain ⟨h1, h2 | ⟨g, cap, cur, hv, hB, hg, r⟩⟩ := h
  · exact ⟨h1, .inl h2⟩
  · refine ⟨h1, .inr ⟨g, cap, cur, hv, hB, ?_, r⟩⟩
    by_cases hb : b = g
    · subst hb
      rw [heap_set hg j x]
      rw [cell_at hg] at hx
      have : cur.setIfInBounds j x = cur := by
        apply Array.ext_getElem?
        intro i
        rw [Array.getElem?_setIfInBounds]
        by_cases hij : j = i
        · subst hij
          rw [if_pos rfl]
          have hl := (Array.getElem?_eq_some_iff.1 hx).1
          rw [if_pos hl, hx]
        · rw [if_neg hij]
      rw [this]
    · exact (heap_set_other _ _ _ _ _ (fun e => hb e.symm)).trans hg
theorem own_block {w : World} {B : Nat} {e : TypeId} {z n : Nat} {a : Option Addr} {c : Nat} {b off : Nat} {xs : List Value} (h : w.ownsRow B e z (.slice a n c) n xs) (ha : a = some ⟨b, off, none⟩) : B ≤ b ∧ ∀ j, w.frozen? ⟨b, j, none⟩ = false := by
  obtain ⟨_, ⟨hv, _⟩ | ⟨g, cap, cur, hv, hB, hg, _⟩⟩ := h
  · simp only [Value.slice.injEq] at hv
    rw [hv.1] at ha
    cases ha
  · simp only [Value.slice.injEq] at hv
    rw [hv.1] at ha
    simp only [Option.some.injEq, Addr.mk.injEq] at ha
    rw [← ha.1]
    exact ⟨hB, fun j => free_at hg j⟩
set_option maxHeartbeats 8000000 in
set_option maxRecDepth 100000 in
theorem anew_is (v : Value) (gs : List Value) (ls : List (List EntV)) (l : List EntV) (hf : ls.flatten = l) (w : World) (h : LsGot w v gs ls) (hl : l.length ≤ 1000) (hll : ls.length ≤ 1000) (ht : ∀ e ∈ l, e.text.size ≤ 4000) : Calls Try.prog 32 #[v] w fun e w' => ∃ r, e = .returned r ∧ w'.ownsRow w.heap.size 40 3 r l.length (entC l) ∧ Below w.heap.size w w' := by
  have H1 := hideIt (concat_is v gs ls l hf w h hl hll)
  have HT := hideIt ht
  have hv : ∃ a c, v = .slice a ls.length c := by
    obtain ⟨_, a, c, e, _⟩ := h
    exact ⟨a, c, e⟩
  obtain ⟨a, c, rfl⟩ := hv
  clear hf h ht
  go_enter Try.func32, Try.ntmps32
  go_wp2_with fail
  refine H1.out.mono ?_
  rintro e w1 ⟨r, rfl, ho, hb⟩
  dsimp only
  have HO := hideIt (And.intro ho hb)
  obtain ⟨ra, rc, rfl⟩ := own_len ho
  clear ho hb H1
  go_wp2
  go_loopw [9] (fun x wr => ∃ t : Nat, x = .int .i64 t ∧ t ≤ l.length ∧ Hid (wr.ownsRow w.heap.size 40 3 (.slice ra l.length rc) l.length (entC l) ∧ Below w.heap.size w wr)) (fun x _ => l.length - (intOf x).toNat)
  case atStart => exact ⟨0, rfl, Nat.zero_le _, HO⟩
  case round =>
    clear HO
    obtain ⟨t, rfl, ht, HO⟩ := hrel
    by_cases hlt : t < l.length
    · have hltI : (t : Int) < (l.length : Int) := by omega
      have ht0 : (0 : Int) ≤ (t : Int) := by omega
      obtain ⟨a2, c2, e2, _, hr⟩ := (own_egot HO.out.1 (by omega)).open
      simp only [Value.slice.injEq] at e2
      obtain ⟨rfl, _, rfl⟩ := e2
      obtain ⟨b, off, rfl, hbl, q0, q1, q2⟩ := hr t hlt
      have hsz := HT.out l[t] (List.getElem_mem hlt)
      generalize (l[t]).text = tx at *
      have HC := hideIt (clone_any tx wr (by omega))
      obtain ⟨hBb, hfz⟩ := own_block HO.out.1 rfl
      clear hr q0 q1 hsz
      go_wp2_with fail
      refine HC.out.mono ?_
      rintro e w2 ⟨rfl, hcb⟩
      dsimp only
      have q3 := (hcb.cell (p := ⟨b, off + t * 3 + 2, none⟩) hbl).trans q2
      have hown := own_keep HO.out.1 hcb
      have fz : w2.frozen? ⟨b, off + t * 3 + 2, none⟩ = false := (own_block hown rfl).2 _
      have HN := hideIt (And.intro (own_same hown b (off + t * 3 + 2) (.string tx) q3) (belowSet (b := b) (j := off + t * 3 + 2) (.string tx) (below_via HO.out.2 hcb) hBb))
      clear hown hcb HC HO q2 hfz
      go_wp2
      go_roundw
      case rel => exact ⟨t + 1, by go_num, by omega, HN⟩
      case measure => simp [intOf]; omega
    · have hltI : ¬ (t : Int) < (l.length : Int) := by omega
      go_wp2
      go_ret
      exact ⟨_, rfl, HO.out.1, HO.out.2⟩
/-- Entries from an index on, at most so many. -/
def fromL (L : LogV) (i m : Int) : List EntV := if mayB L && hasB L i && decide (1 ≤ m) then (L.l.drop (i - L.bi - 1).toNat).take m.toNat else []
theorem EGot.part {w : World} {a : Option Addr} {c : Nat} {l : List EntV} (h : EGot w (.slice a l.length c) l) (k n c2 : Nat) (hk : k + n ≤ l.length) (hc2 : n ≤ c2 ∧ c2 ≤ maxLen) (a2 : Option Addr) (ha : 0 < n → ∀ b off, a = some ⟨b, off, none⟩ → a2 = some ⟨b, off + k * 3, none⟩) : EGot w (.slice a2 n c2) ((l.drop k).take n) := by
  have hlen : ((l.drop k).take n).length = n := by
    rw [List.length_take, List.length_drop]
    omega
  obtain ⟨h8, a', c', e, _, hr⟩ := h
  simp only [Value.slice.injEq] at e
  obtain ⟨rfl, _, _⟩ := e
  refine ⟨by omega, a2, c2, by rw [hlen], by rw [hlen]; exact hc2, fun hp => ?_⟩
  rw [hlen] at hp
  obtain ⟨b, off, rfl, hlt, hc⟩ := hr (by omega)
  refine ⟨b, off + k * 3, ha hp b off rfl, hlt, fun j hj => ?_⟩
  rw [hlen] at hj
  rw [show off + k * 3 + j = off + (k * 3 + j) by omega, hc (k * 3 + j) (by omega)]
  have e1 : entC l = entC (l.take k) ++ (entC ((l.drop k).take n) ++ entC ((l.drop k).drop n)) := by
    rw [← entC_app, ← entC_app, List.take_append_drop, List.take_append_drop]
  have l1 : (entC (l.take k)).length = k * 3 := by
    rw [entC_len, List.length_take]
    congr 1
    omega
  rw [e1, List.getElem?_append_right (by omega), l1, Nat.add_sub_cancel_left, List.getElem?_append_left (by rw [entC_len, hlen]; exact hj)]
end Go.Proofs.Ytonhoopmhkomcaa
