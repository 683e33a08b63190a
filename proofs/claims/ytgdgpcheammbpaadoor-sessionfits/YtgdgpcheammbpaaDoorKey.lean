/- The keys of a request. -/
import Derived.Test.YtgdgpcheammbpaaDoorFit
import Derived.Lib.AppendZeros
namespace Go.Proofs.YtgdgpcheammbpaaDoor
open Go.RowKit
set_option linter.all false
def keyE (k : KeyV) : List Value := [.int .i64 k.1, .int .i64 k.2]
theorem keyK (k : KeyV) : (keyE k).length = 2 := rfl
theorem key1 (k : KeyV) : ∀ u ∈ keyE k, u.oneCell' = true := by
  intro u hu
  simp only [keyE, List.mem_cons, List.not_mem_nil, or_false] at hu
  rcases hu with rfl | rfl <;> rfl
theorem info23 : (Tryd.prog.info? 23).map (fun i => (i.zero, i.size, i.bytes)) = some (some (.agg #[.int .i64 0, .int .i64 0]), 2, 16) := by kernel_rfl
def keyT (tk : Int) (r : ReqV) : List KeyV := if tk = 1 then [(1, r.acct)] else if tk = 2 then [(2, r.lane)] else if tk = 3 then [(1, r.acct), (2, r.lane)] else if tk = 5 then [(1, r.acct), (2, 1), (2, 2), (2, 3)] else [r.key]
def keysB (r : ReqV) : List KeyV := if fitsB r = true then keyT (formK r.kind) r else []
theorem fits_kind {r : ReqV} (h : fitsB r = true) : 1 ≤ r.kind ∧ r.kind ≤ 9 := by
  unfold fitsB at h
  rw [Bool.and_eq_true] at h
  exact of_decide_eq_true h.1
theorem formK_five {k : Int} (h1 : 1 ≤ k) (h9 : k ≤ 9) : formK k = 1 ∨ formK k = 2 ∨ formK k = 3 ∨ formK k = 5 ∨ formK k = 8 := by
  have : k = 1 ∨ k = 2 ∨ k = 3 ∨ k = 4 ∨ k = 5 ∨ k = 6 ∨ k = 7 ∨ k = 8 ∨ k = 9 := by omega
  rcases this with rfl | rfl | rfl | rfl | rfl | rfl | rfl | rfl | rfl
  · exact .inl rfl
  · exact .inl rfl
  · exact .inr (.inr (.inl rfl))
  · exact .inr (.inl rfl)
  · exact .inr (.inl rfl)
  · exact .inr (.inl rfl)
  · exact .inr (.inr (.inr (.inl rfl)))
  · exact .inl rfl
  · exact .inr (.inr (.inr (.inr rfl)))
/-- Keys of the call's own. -/
def KeyOn (w W : World) (v : Value) (l : List KeyV) : Prop := W.ownsRow w.heap.size 23 2 v l.length (celC keyE l) ∧ Below w.heap.size w W
theorem key_app {w W : World} {v : Value} {l : List KeyV} (h : KeyOn w W v l) (hl : l.length ≤ 100) (k n : Int) : ∃ a' c' w', (Builtin.append_ #[26, 26] 26 #[v, .slice (some ⟨W.heap.size, 0, none⟩) 1 1]).run Tryd.prog (W.alloc (.cells #[.int .i64 k, .int .i64 n] 23)) = .ok (.slice a' (l.length + 1) c') w' ∧ KeyOn w w' (.slice a' (l.length + 1) c') (l ++ [(k, n)]) ∧ (∀ (b : Nat) (cs : Array Value) (t : TypeId), W.heap[b]? = some (.cells cs t (0, 0)) → t ≠ 23 → w'.heap[b]? = some (.cells cs t (0, 0))) := by
  have hb := below1 W (.cells #[.int .i64 k, .int .i64 n] 23)
  obtain ⟨v', w', hrun, how, hgr⟩ := app1 (enc := keyE) (t := 26) keyK key1 Tryd.underlying26 info23 rfl (by omega) (W.alloc (.cells #[.int .i64 k, .int .i64 n] 23)) w.heap.size v l (k, n) W.heap.size 1 (Nat.le_trans h.2.size hb.size) (own_keep h.1 hb) (heap_alloc_new W _) (by omega) (by unfold maxLen; omega)
  obtain ⟨a', c', rfl⟩ := own_len how
  have hlen : (l ++ [(k, n)]).length = l.length + 1 := by simp
  rw [hlen] at hrun how
  refine ⟨a', c', w', hrun, ⟨by rw [hlen]; exact how, grown_own hgr (own_keep h.1 hb) (Nat.le_refl _) (below_via h.2 hb)⟩, fun b cs t hbx hne => ?_⟩
  exact box_type hgr (own_keep h.1 hb) ((hb.block _ (Array.getElem?_eq_some_iff.1 hbx).1).trans hbx) (Ne.symm hne)
def KeyBack (l : List KeyV) (w : World) (e : Ending) (w' : World) : Prop := ∃ a c, e = .returned (.slice a l.length c) ∧ KeyOn w w' (.slice a l.length c) l
/-- The box of the request. -/
theorem req_at {w : World} {p : Nat} {k a l s d pr n kk kn t : Int} {o : Bool} (h : w.heap[p]? = some (.cells #[.int .i64 k, .int .i64 a, .int .i64 l, .int .i64 s, .int .i64 d, .int .i64 pr, .int .i64 n, .bool o, .int .i64 kk, .int .i64 kn, .int .i64 t] 25 (0, 0))) : w.cell? ⟨p, 0, none⟩ = some (.int .i64 k) ∧ w.cell? ⟨p, 1, none⟩ = some (.int .i64 a) ∧ w.cell? ⟨p, 2, none⟩ = some (.int .i64 l) ∧ w.cell? ⟨p, 8, none⟩ = some (.int .i64 kk) ∧ w.cell? ⟨p, 9, none⟩ = some (.int .i64 kn) :=
  ⟨by rw [cell_at h]; rfl, by rw [cell_at h]; rfl, by rw [cell_at h]; rfl, by rw [cell_at h]; rfl, by rw [cell_at h]; rfl⟩
set_option maxHeartbeats 8000000 in
set_option maxRecDepth 100000 in
theorem keys_is (r : ReqV) (w : World) (hF : Forms w) : Calls Tryd.prog 9 #[.agg (reqC r)] w (KeyBack (keysB r) w) := by
  have H0 := hideIt (fun W (hW : Below w.heap.size w W) => fits_is r W (hF.keep hW))
  have X0 := hideIt (And.intro (heap_alloc_new w (.cells (reqC r) 25)) (below1 w (.cells (reqC r) 25)))
  unfold keysB
  cases hf : fitsB r
  · rw [hf] at H0
    rw [if_neg (by simp)]
    obtain ⟨k, a, l, s, d, p, n, o, ⟨kk, kn⟩, t⟩ := r
    simp only [reqC] at *
    go_enter Tryd.func9, Tryd.ntmps9
    go_wp2_with fail
    refine (H0.out _ X0.out.2).mono ?_
    rintro e w1 ⟨rfl, hb⟩
    dsimp only
    have HB := hideIt (below_via X0.out.2 hb)
    go_wp2
    go_ret
    exact ⟨none, 0, rfl, own_nil _ _, HB.out⟩
  · rw [hf] at H0
    rw [if_pos rfl]
    obtain ⟨hk1, hk2⟩ := fits_kind hf
    clear hf
    have h5 := formK_five hk1 hk2
    obtain ⟨k, a, l, s, d, p, n, o, ⟨kk, kn⟩, t⟩ := r
    simp only [reqC] at *
    rcases h5 with htk | htk | htk | htk | htk
    · rw [htk]
      have HR : Hid (keyT 1 ⟨k, a, l, s, d, p, n, o, (kk, kn), t⟩ = [] ++ [(1, a)]) := rfl
      generalize keyT 1 ⟨k, a, l, s, d, p, n, o, (kk, kn), t⟩ = RES at *
      have f1 : (bits .and .i64 1 1 != 0) = true := by kernel_rfl
      have f2 : (bits .and .i64 1 2 != 0) = false := by kernel_rfl
      have f4 : (bits .and .i64 1 4 != 0) = false := by kernel_rfl
      have f8 : (bits .and .i64 1 8 != 0) = false := by kernel_rfl
      go_enter Tryd.func9, Tryd.ntmps9
      go_wp2_with fail
      refine (H0.out _ X0.out.2).mono ?_
      rintro e w1 ⟨rfl, hb⟩
      dsimp only
      have HX := hideIt ((hb.block _ (Array.getElem?_eq_some_iff.1 X0.out.1).1).trans X0.out.1)
      have HB := hideIt (below_via X0.out.2 hb)
      obtain ⟨r0, r1, r2, r8, r9⟩ := req_at HX.out
      have c1 := (HB.out.cell (p := ⟨0, k.toNat * 2 + 1, none⟩) hF.1).trans (hF.2 k hk1 hk2).2
      rw [htk] at c1
      clear hb H0 X0 hF
      have K0 : Hid (KeyOn w w1 (.slice none 0 0) []) := ⟨own_nil _ _, HB.out⟩
      obtain ⟨a', c', w', hrun, HO', hkp⟩ := key_app K0.out (by simp) 1 a
      simp only [List.length_nil, List.length_append, List.length_cons, Nat.zero_add, Nat.reduceAdd] at hrun HO'
      have HRUN := hideIt hrun
      have K1 := hideIt HO'
      have HXn := hideIt (hkp _ _ _ HX.out (by decide))
      clear hrun HO' hkp K0
      go_wp2_with (at_builtin; refine Lib.wpList_append_run _ rfl _ _ _ _ rfl _ _ rfl rfl _ _ HRUN.out ?_)
      clear HRUN HX r0 r1 r2 r8 r9
      have HX := hideIt HXn.out
      clear HXn
      obtain ⟨r0, r1, r2, r8, r9⟩ := req_at HX.out
      go_wp2
      go_ret
      rw [HR.out]
      exact ⟨_, _, rfl, K1.out⟩
    · rw [htk]
      have HR : Hid (keyT 2 ⟨k, a, l, s, d, p, n, o, (kk, kn), t⟩ = [] ++ [(2, l)]) := rfl
      generalize keyT 2 ⟨k, a, l, s, d, p, n, o, (kk, kn), t⟩ = RES at *
      have f1 : (bits .and .i64 2 1 != 0) = false := by kernel_rfl
      have f2 : (bits .and .i64 2 2 != 0) = true := by kernel_rfl
      have f4 : (bits .and .i64 2 4 != 0) = false := by kernel_rfl
      have f8 : (bits .and .i64 2 8 != 0) = false := by kernel_rfl
      go_enter Tryd.func9, Tryd.ntmps9
      go_wp2_with fail
      refine (H0.out _ X0.out.2).mono ?_
      rintro e w1 ⟨rfl, hb⟩
      dsimp only
      have HX := hideIt ((hb.block _ (Array.getElem?_eq_some_iff.1 X0.out.1).1).trans X0.out.1)
      have HB := hideIt (below_via X0.out.2 hb)
      obtain ⟨r0, r1, r2, r8, r9⟩ := req_at HX.out
      have c1 := (HB.out.cell (p := ⟨0, k.toNat * 2 + 1, none⟩) hF.1).trans (hF.2 k hk1 hk2).2
      rw [htk] at c1
      clear hb H0 X0 hF
      have K0 : Hid (KeyOn w w1 (.slice none 0 0) []) := ⟨own_nil _ _, HB.out⟩
      obtain ⟨a', c', w', hrun, HO', hkp⟩ := key_app K0.out (by simp) 2 l
      simp only [List.length_nil, List.length_append, List.length_cons, Nat.zero_add, Nat.reduceAdd] at hrun HO'
      have HRUN := hideIt hrun
      have K1 := hideIt HO'
      have HXn := hideIt (hkp _ _ _ HX.out (by decide))
      clear hrun HO' hkp K0
      go_wp2_with (at_builtin; refine Lib.wpList_append_run _ rfl _ _ _ _ rfl _ _ rfl rfl _ _ HRUN.out ?_)
      clear HRUN HX r0 r1 r2 r8 r9
      have HX := hideIt HXn.out
      clear HXn
      obtain ⟨r0, r1, r2, r8, r9⟩ := req_at HX.out
      go_wp2
      go_ret
      rw [HR.out]
      exact ⟨_, _, rfl, K1.out⟩
    · rw [htk]
      have HR : Hid (keyT 3 ⟨k, a, l, s, d, p, n, o, (kk, kn), t⟩ = [] ++ [(1, a)] ++ [(2, l)]) := rfl
      generalize keyT 3 ⟨k, a, l, s, d, p, n, o, (kk, kn), t⟩ = RES at *
      have f1 : (bits .and .i64 3 1 != 0) = true := by kernel_rfl
      have f2 : (bits .and .i64 3 2 != 0) = true := by kernel_rfl
      have f4 : (bits .and .i64 3 4 != 0) = false := by kernel_rfl
      have f8 : (bits .and .i64 3 8 != 0) = false := by kernel_rfl
      go_enter Tryd.func9, Tryd.ntmps9
      go_wp2_with fail
      refine (H0.out _ X0.out.2).mono ?_
      rintro e w1 ⟨rfl, hb⟩
      dsimp only
      have HX := hideIt ((hb.block _ (Array.getElem?_eq_some_iff.1 X0.out.1).1).trans X0.out.1)
      have HB := hideIt (below_via X0.out.2 hb)
      obtain ⟨r0, r1, r2, r8, r9⟩ := req_at HX.out
      have c1 := (HB.out.cell (p := ⟨0, k.toNat * 2 + 1, none⟩) hF.1).trans (hF.2 k hk1 hk2).2
      rw [htk] at c1
      clear hb H0 X0 hF
      have K0 : Hid (KeyOn w w1 (.slice none 0 0) []) := ⟨own_nil _ _, HB.out⟩
      obtain ⟨a', c', w', hrun, HO', hkp⟩ := key_app K0.out (by simp) 1 a
      simp only [List.length_nil, List.length_append, List.length_cons, Nat.zero_add, Nat.reduceAdd] at hrun HO'
      have HRUN := hideIt hrun
      have HXn := hideIt (hkp _ _ _ HX.out (by decide))
      obtain ⟨s0, s1, s2, s8, s9⟩ := req_at HXn.out
      obtain ⟨a2, c2, w2, hrun2, HO2, hkp2⟩ := key_app HO' (by simp) 2 l
      simp only [List.length_nil, List.length_append, List.length_cons, Nat.zero_add, Nat.reduceAdd] at hrun2 HO2
      have HRUN2 := hideIt hrun2
      have K2 := hideIt HO2
      clear hrun HO' hkp hrun2 HO2 hkp2 K0 HXn HX
      go_wp2_with (at_builtin; first | (refine Lib.wpList_append_run _ rfl _ _ _ _ rfl _ _ rfl rfl _ _ HRUN.out ?_) | (refine Lib.wpList_append_run _ rfl _ _ _ _ rfl _ _ rfl rfl _ _ HRUN2.out ?_))
      go_wp2
      go_ret
      rw [HR.out]
      exact ⟨_, _, rfl, K2.out⟩
    · rw [htk]
      have HR : Hid (keyT 5 ⟨k, a, l, s, d, p, n, o, (kk, kn), t⟩ = [] ++ [(1, a)] ++ ([(2, 1), (2, 2), (2, 3)] : List KeyV).take 3) := rfl
      generalize keyT 5 ⟨k, a, l, s, d, p, n, o, (kk, kn), t⟩ = RES at *
      have f1 : (bits .and .i64 5 1 != 0) = true := by kernel_rfl
      have f2 : (bits .and .i64 5 2 != 0) = false := by kernel_rfl
      have f4 : (bits .and .i64 5 4 != 0) = true := by kernel_rfl
      have f8 : (bits .and .i64 5 8 != 0) = false := by kernel_rfl
      go_enter Tryd.func9, Tryd.ntmps9
      go_wp2_with fail
      refine (H0.out _ X0.out.2).mono ?_
      rintro e w1 ⟨rfl, hb⟩
      dsimp only
      have HX := hideIt ((hb.block _ (Array.getElem?_eq_some_iff.1 X0.out.1).1).trans X0.out.1)
      have HB := hideIt (below_via X0.out.2 hb)
      obtain ⟨r0, r1, r2, r8, r9⟩ := req_at HX.out
      have c1 := (HB.out.cell (p := ⟨0, k.toNat * 2 + 1, none⟩) hF.1).trans (hF.2 k hk1 hk2).2
      rw [htk] at c1
      clear hb H0 X0 hF
      have K0 : Hid (KeyOn w w1 (.slice none 0 0) []) := ⟨own_nil _ _, HB.out⟩
      obtain ⟨a', c', w', hrun, HO', hkp⟩ := key_app K0.out (by simp) 1 a
      simp only [List.length_nil, List.length_append, List.length_cons, Nat.zero_add, Nat.reduceAdd] at hrun HO'
      have HRUN := hideIt hrun
      have K1 := hideIt HO'
      have HXn := hideIt (hkp _ _ _ HX.out (by decide))
      clear hrun HO' hkp K0
      go_wp2_with (at_builtin; refine Lib.wpList_append_run _ rfl _ _ _ _ rfl _ _ rfl rfl _ _ HRUN.out ?_)
      clear HRUN HX r0 r1 r2 r8 r9
      have HX := hideIt HXn.out
      clear HXn
      obtain ⟨r0, r1, r2, r8, r9⟩ := req_at HX.out
      go_wp2
      go_loopw [3, 35] (fun u x wr => ∃ t : Nat, ∃ ra rc, u = .slice ra (1 + t) rc ∧ x = .int .i64 t ∧ t ≤ 3 ∧ Hid (KeyOn w wr (.slice ra (1 + t) rc) ([] ++ [(1, a)] ++ ([(2, 1), (2, 2), (2, 3)] : List KeyV).take t))) (fun _ x _ => 3 - (intOf x).toNat)
      case atStart => exact ⟨0, _, _, rfl, rfl, by omega, K1⟩
      case round =>
        clear K1
        obtain ⟨t, ra, rc, rfl, rfl, ht, HK⟩ := hrel
        by_cases hlt : t < 3
        · have hltI : (t : Int) < 3 := by omega
          have ht0 : (0 : Int) ≤ (t : Int) := by omega
          have hw : IntKind.i64.wrap ((t : Int) + 1) = (t : Int) + 1 := by rw [IntKind.wrap_i64]; omega
          obtain ⟨a', c', w', hrun, HO', -⟩ := key_app HK.out (by simp; omega) 2 ((t : Int) + 1)
          have e1 : [] ++ [(1, a)] ++ ([(2, 1), (2, 2), (2, 3)] : List KeyV).take t ++ [(2, (t : Int) + 1)] = [] ++ [(1, a)] ++ ([(2, 1), (2, 2), (2, 3)] : List KeyV).take (t + 1) := by
            have : t = 0 ∨ t = 1 ∨ t = 2 := by omega
            rcases this with rfl | rfl | rfl <;> rfl
          have e2 : ([] ++ [(1, a)] ++ ([(2, 1), (2, 2), (2, 3)] : List KeyV).take t).length + 1 = 1 + (t + 1) := by
            simp
            omega
          rw [e1, e2] at HO'
          rw [e2] at hrun
          have HRUN := hideIt hrun
          have HN := hideIt HO'
          clear hrun HO' e1 e2 HK
          go_wp2_with (at_builtin; refine Lib.wpList_append_run _ rfl _ _ _ _ rfl _ _ rfl rfl _ _ HRUN.out ?_)
          clear HRUN
          go_wp2
          go_roundw
          case rel => exact ⟨t + 1, _, _, rfl, by go_num, by omega, HN⟩
          case measure => simp [intOf]; omega
        · have hltI : ¬ (t : Int) < 3 := by omega
          have h3 : t = 3 := by omega
          subst h3
          go_wp2
          go_ret
          rw [HR.out]
          exact ⟨_, _, rfl, HK.out⟩
    · rw [htk]
      have HR : Hid (keyT 8 ⟨k, a, l, s, d, p, n, o, (kk, kn), t⟩ = [] ++ [(kk, kn)]) := rfl
      generalize keyT 8 ⟨k, a, l, s, d, p, n, o, (kk, kn), t⟩ = RES at *
      have f1 : (bits .and .i64 8 1 != 0) = false := by kernel_rfl
      have f2 : (bits .and .i64 8 2 != 0) = false := by kernel_rfl
      have f4 : (bits .and .i64 8 4 != 0) = false := by kernel_rfl
      have f8 : (bits .and .i64 8 8 != 0) = true := by kernel_rfl
      go_enter Tryd.func9, Tryd.ntmps9
      go_wp2_with fail
      refine (H0.out _ X0.out.2).mono ?_
      rintro e w1 ⟨rfl, hb⟩
      dsimp only
      have HX := hideIt ((hb.block _ (Array.getElem?_eq_some_iff.1 X0.out.1).1).trans X0.out.1)
      have HB := hideIt (below_via X0.out.2 hb)
      obtain ⟨r0, r1, r2, r8, r9⟩ := req_at HX.out
      have c1 := (HB.out.cell (p := ⟨0, k.toNat * 2 + 1, none⟩) hF.1).trans (hF.2 k hk1 hk2).2
      rw [htk] at c1
      clear hb H0 X0 hF
      have K0 : Hid (KeyOn w w1 (.slice none 0 0) []) := ⟨own_nil _ _, HB.out⟩
      obtain ⟨a', c', w', hrun, HO', hkp⟩ := key_app K0.out (by simp) kk kn
      simp only [List.length_nil, List.length_append, List.length_cons, Nat.zero_add, Nat.reduceAdd] at hrun HO'
      have HRUN := hideIt hrun
      have K1 := hideIt HO'
      have HXn := hideIt (hkp _ _ _ HX.out (by decide))
      clear hrun HO' hkp K0
      go_wp2_with (at_builtin; refine Lib.wpList_append_run _ rfl _ _ _ _ rfl _ _ rfl rfl _ _ HRUN.out ?_)
      clear HRUN HX r0 r1 r2 r8 r9
      have HX := hideIt HXn.out
      clear HXn
      obtain ⟨r0, r1, r2, r8, r9⟩ := req_at HX.out
      go_wp2
      go_ret
      rw [HR.out]
      exact ⟨_, _, rfl, K1.out⟩
end Go.Proofs.YtgdgpcheammbpaaDoor
