/- The document's Owe, walked. -/
import Derived.Test.YtgnmghcdfihmgaaDcP
import Derived.Test.YtgnmghcdfihmgaaRUn
namespace Go.Proofs.Ytgnmghcdfihmgaa
open Go.RowKit
set_option linter.all false
/-- The new list on its way. -/
structure RO (w : World) (pre : List OweV) (u : Value) (W : World) : Prop where
  row : W.ownsRow w.heap.size 48 3 u pre.length (celC oweE pre)
  bel : Below w.heap.size w W
theorem RO.keep {w W W' : World} {pre : List OweV} {u : Value} (h : RO w pre u W) (hb : Below W.heap.size W W') : RO w pre u W' := ⟨own_keep h.row hb, below_via h.bel hb⟩
theorem RO.set {w W : World} {pre : List OweV} {u v : Value} {cs : Array Value} (h : RO w pre u W) (j : Nat) : RO w pre u ((W.alloc (.cells cs 48)).setCell ⟨W.heap.size, j, none⟩ v) := by
  have hb := below1 W (.cells cs 48)
  refine ⟨own_ne (own_keep h.row hb) (fun e => ?_), belowSet _ (below_via h.bel hb) h.bel.size⟩
  have := (h.row.lt _ e).2
  omega
theorem RO.app {w W : World} {pre : List OweV} {u : Value} (h : RO w pre u W) (x : OweV) (hl : pre.length ≤ 3000) : ∃ a' c' w', (Builtin.append_ #[23, 23] 23 #[u, .slice (some ⟨W.heap.size, 0, none⟩) 1 1]).run Try.prog (W.alloc (.cells (oweE x).toArray 48)) = .ok (.slice a' (pre.length + 1) c') w' ∧ RO w (pre ++ [x]) (.slice a' (pre.length + 1) c') w' ∧ ∀ b, u.ownBlock ≠ some b → b < W.heap.size → w'.heap[b]? = W.heap[b]? := by
  have hb := below1 W (.cells (oweE x).toArray 48)
  have hO := own_keep h.row hb
  obtain ⟨v', w', hrun, how, hgr⟩ := app1 (enc := oweE) (t := 23) oweK owe1 Try.underlying23 info63 rfl (by omega) (W.alloc (.cells (oweE x).toArray 48)) w.heap.size u pre x W.heap.size 1 (Nat.le_trans h.bel.size hb.size) hO (heap_alloc_new W _) (by omega) (by unfold maxLen; omega)
  obtain ⟨a', c', rfl⟩ := own_len how
  have hlen : (pre ++ [x]).length = pre.length + 1 := by simp
  rw [hlen] at hrun how
  refine ⟨a', c', w', hrun, ⟨by rw [hlen]; exact how, grown_own hgr hO (Nat.le_refl _) (below_via h.bel hb)⟩, fun b hu hz => ?_⟩
  exact (hgr.block _ (Nat.lt_of_lt_of_le hz hb.size) (fun e => hu e.symm)).trans (hb.block _ hz)
def OweBack (R : List OweV × Bool) (w : World) (e : Ending) (w' : World) : Prop := ∃ a c, e = .returned (.tuple #[.slice a R.1.length c, .bool R.2]) ∧ w'.ownsRow w.heap.size 48 3 (.slice a R.1.length c) R.1.length (celC oweE R.1) ∧ Below w.heap.size w w'
def OwrBack (R : List OweV × Bool) (w : World) (e : Ending) (w' : World) : Prop := ∃ a c, e = .returned (.tuple #[.slice a R.1.length c, .bool R.2]) ∧ Owes w' (.slice a R.1.length c) R.1 ∧ Below w.heap.size w w'
theorem stp_len (acc asset n : Int) : ∀ (l : List OweV) (x : List OweV × Bool × Bool), (l.foldl (stpO acc asset n) x).1.length ≤ x.1.length + 2 * l.length
  | [], x => by simp
  | o :: l, x => by
    rw [List.foldl_cons]
    refine Nat.le_trans (stp_len acc asset n l _) ?_
    have : (stpO acc asset n x o).1.length ≤ x.1.length + 2 := by
      unfold stpO
      split
      · simp
      · split <;> simp
    rw [List.length_cons]
    omega
theorem three_at {w : World} {p : Nat} {t : TypeId} {a b c : Value} (h : w.heap[p]? = some (.cells #[a, b, c] t (0, 0))) : w.cell? ⟨p, 0, none⟩ = some a ∧ w.cell? ⟨p, 1, none⟩ = some b ∧ w.cell? ⟨p, 2, none⟩ = some c ∧ (∀ j, w.frozen? ⟨p, j, none⟩ = false) ∧ p < w.heap.size :=
  ⟨by rw [cell_at h]; rfl, by rw [cell_at h]; rfl, by rw [cell_at h]; rfl, fun j => free_at h j, (Array.getElem?_eq_some_iff.1 h).1⟩
set_option maxHeartbeats 16000000 in
set_option maxRecDepth 100000 in
theorem rOwe_is (v : Value) (l : List OweV) (acc asset n : Int) (w : World) (h : Owes w v l) (hs : srtB owB l = true) (hl : l.length ≤ 1000) (hy : ∀ y ∈ l, 0 ≤ y.n ∧ y.n ≤ 1152921504606846976) (hn : 1 ≤ n ∧ n ≤ 1000000000000) : Calls Try.prog 69 #[v, .int .i64 acc, .int .i64 asset, .int .i64 n] w (OweBack (oweD acc asset n l) w) := by
  obtain ⟨a, c, rfl, h8, hr⟩ := h.owes
  have HH := hideIt hr
  clear hr h
  have h0 : ¬ n = 0 := by omega
  have HF : Hid ((if (l.foldl (stpO acc asset n) ([], false, true)).2.1 = true then (l.foldl (stpO acc asset n) ([], false, true)).1 else (l.foldl (stpO acc asset n) ([], false, true)).1 ++ [⟨acc, asset, n⟩]) = (oweD acc asset n l).1 ∧ (l.foldl (stpO acc asset n) ([], false, true)).2.2 = (oweD acc asset n l).2) := by
    have := stp_all acc asset n l [] hs
    unfold oweD
    rw [if_neg h0]
    exact this
  have HLN := hideIt (fun t => stp_len acc asset n (l.take t) ([], false, true))
  have HST := hideIt (fun t (ht : t < l.length) => show (l.take (t + 1)).foldl (stpO acc asset n) ([], false, true) = stpO acc asset n ((l.take t).foldl (stpO acc asset n) ([], false, true)) l[t] by rw [List.take_succ_eq_append_getElem ht, List.foldl_append]; rfl)
  have HFL := hideIt (show (l.take l.length).foldl (stpO acc asset n) ([], false, true) = l.foldl (stpO acc asset n) ([], false, true) by rw [List.take_length])
  have HI : Hid ((l.take 0).foldl (stpO acc asset n) ([], false, true) = ([], false, true)) := by show _ = _; simp
  have HY := hideIt hy
  have X0 : Hid (RO w [] (.slice none 0 0) w) := ⟨own_nil _ _, Below.refl _ _⟩
  generalize oweD acc asset n l = R at *
  generalize hfo : l.foldl (stpO acc asset n) ([], false, true) = FO at *
  clear hfo hy
  generalize hfu : (fun t : Nat => (l.take t).foldl (stpO acc asset n) ([], false, true)) = FT at *
  have HT : Hid (∀ t, (l.take t).foldl (stpO acc asset n) ([], false, true) = FT t) := fun t => congrFun hfu t
  simp only [HT.out] at HLN HST HFL HI
  clear hfu HT
  have hw53 : IntKind.i64.wrap (9007199254740992 - n) = 9007199254740992 - n := by rw [IntKind.wrap_i64]; omega
  have hn0 : ¬ n = 0 := h0
  have hn0b : (n == 0) = false := by simp [h0]
  go_enter Try.func69, Try.ntmps69
  go_wp2
  go_loopw [10, 11, 12, 13] (fun u pv kv x wr => ∃ t : Nat, ∃ ua un uc, ∃ pt ok : Bool, ∃ pre, u = .slice ua un uc ∧ pv = .bool pt ∧ kv = .bool ok ∧ x = .int .i64 t ∧ t ≤ l.length ∧ un = pre.length ∧ Hid (FT t = (pre, pt, ok)) ∧ Hid (RO w pre (.slice ua un uc) wr)) (fun _ _ _ x _ => l.length - (intOf x).toNat)
  case atStart => exact ⟨0, none, 0, 0, false, true, [], rfl, rfl, rfl, rfl, Nat.zero_le _, rfl, HI, X0⟩
  case round =>
    clear HI X0
    obtain ⟨t, ua, un, uc, pt, ok, pre, rfl, rfl, rfl, rfl, ht, hun, HFT, HP⟩ := hrel
    have hpl := HLN.out t
    rw [HFT.out] at hpl
    simp only [List.length_take, List.length_nil] at hpl
    subst hun
    by_cases hlt : t < l.length
    · have hltI : (t : Int) < (l.length : Int) := by omega
      have ht0 : (0 : Int) ≤ (t : Int) := by omega
      have hwt : IntKind.i64.wrap ((t : Int) + 1) = ((t + 1 : Nat) : Int) := by rw [IntKind.wrap_i64]; omega
      obtain ⟨b, off, rfl, hbl, q0, q1, q2⟩ := HH.out t hlt
      have hS := HST.out t hlt
      rw [HFT.out] at hS
      have hyn := HY.out _ (List.getElem_mem hlt)
      have HN := hideIt hS
      clear hS HST HFT HY HH HFL HLN
      generalize l[t] = y at *
      obtain ⟨ya, ys, yn⟩ := y
      dsimp only at q0 q1 q2 hyn
      have hblr : b < wr.heap.size := Nat.lt_of_lt_of_le hbl HP.out.bel.size
      have c0 := (HP.out.bel.cell (p := ⟨b, off + t * 3, none⟩) hbl).trans q0
      have c1 := (HP.out.bel.cell (p := ⟨b, off + t * 3 + 1, none⟩) hbl).trans q1
      have c2 := (HP.out.bel.cell (p := ⟨b, off + t * 3 + 2, none⟩) hbl).trans q2
      clear q0 q1 q2
      have HWN : Hid (IntKind.i64.wrap (yn + n) = yn + n) := by show _ = _; rw [IntKind.wrap_i64]; omega
      have HNE : Hid (∀ k, (Value.slice ua pre.length uc).ownBlock = some k → k < wr.heap.size) := fun k e => (HP.out.row.lt k e).2
      by_cases hm : ya = acc ∧ ys = asset
      · obtain ⟨rfl, rfl⟩ := hm
        have HN2 : Hid (FT (t + 1) = (pre ++ [⟨ya, ys, yn + n⟩], true, decide (yn ≤ 9007199254740992 - n))) := by
          show _ = _
          rw [HN.out]
          unfold stpO
          rw [if_pos (by simp [oweP])]
        have hwn := HWN.out
        have Z := hideIt (HP.out.set (v := .int .i64 (yn + n)) (cs := #[.int .i64 ya, .int .i64 ys, .int .i64 yn]) 2)
        have K1 := hideIt (heap_alloc_new wr (.cells #[.int .i64 ya, .int .i64 ys, .int .i64 yn] 48))
        clear HN HP HWN
        go_upto_region 10 with fail
        clear c0 c1 c2 hblr
        generalize wr.alloc (.cells #[.int .i64 ya, .int .i64 ys, .int .i64 yn] 48) = W1 at *
        generalize wr.heap.size = kb at *
        obtain ⟨k0, k1, k2, kf, kz⟩ := three_at K1.out
        have K2 := hideIt (heap_set K1.out 2 (.int .i64 (yn + n)))
        clear K1
        go_upto_region 14 with fail
        clear k0 k1 k2 kf kz
        generalize W1.setCell ⟨kb, 2, none⟩ (.int .i64 (yn + n)) = W2 at *
        obtain ⟨k0, k1, k2, kf, kz⟩ := three_at K2.out
        obtain ⟨a', c', w', hrun, hO', hk'⟩ := Z.out.app (OweV.mk ya ys (yn + n)) (by first | omega | (simp; omega))
        (try simp only [List.length_append, List.length_cons, List.length_nil, Nat.zero_add] at hrun hO')
        simp only [oweE] at hrun
        have HRUN := hideIt hrun
        have Z3 := hideIt hO'
        have Z4 := hideIt hk'
        clear hrun hO' hk'
        clear Z Z4 K2
        go_wp2_with (at_builtin; refine Lib.wpList_append_run _ rfl _ _ _ _ rfl _ _ rfl rfl _ _ HRUN.out ?_)
        clear HRUN
        go_wp2
        go_roundw
        case rel => first | exact ⟨t + 1, a', _, c', true, _, _, rfl, rfl, rfl, by go_num, by omega, by simp, HN2, Z3⟩ | ((repeat apply Exists.intro); exact ⟨⟨t + 1, a', _, c', true, _, _, rfl, rfl, rfl, by go_num, by omega, by simp, HN2, Z3⟩, rfl⟩)
        case measure => simp [intOf]; omega
      · have hm1 : oweP acc asset ⟨ya, ys, yn⟩ = false := by
          cases hq : oweP acc asset ⟨ya, ys, yn⟩
          · rfl
          · exact absurd (by simpa [oweP] using hq) hm
        by_cases hg : pt = false ∧ (acc < ya ∨ ya = acc ∧ asset < ys)
        · obtain ⟨rfl, hg⟩ := hg
          have HN2 : Hid (FT (t + 1) = (pre ++ [⟨acc, asset, n⟩] ++ [⟨ya, ys, yn⟩], true, ok)) := by
            show _ = _
            rw [HN.out]
            unfold stpO
            rw [if_neg (by simp [hm1]), if_pos ⟨rfl, hg⟩]
          have Z := hideIt (HP.out.keep (below1 wr (.cells #[.int .i64 ya, .int .i64 ys, .int .i64 yn] 48)))
          have K1 := hideIt (heap_alloc_new wr (.cells #[.int .i64 ya, .int .i64 ys, .int .i64 yn] 48))
          have hnb : (Value.slice ua pre.length uc).ownBlock ≠ some wr.heap.size := fun e => by have := HNE.out _ e; omega
          have hkz : wr.heap.size < (wr.alloc (.cells #[.int .i64 ya, .int .i64 ys, .int .i64 yn] 48)).heap.size := (Array.getElem?_eq_some_iff.1 K1.out).1
          clear HN HP HWN HNE hm1
          go_upto_region 10 with fail
          clear c0 c1 c2 hblr
          generalize wr.alloc (.cells #[.int .i64 ya, .int .i64 ys, .int .i64 yn] 48) = W1 at *
          generalize wr.heap.size = kb at *
          obtain ⟨a3, c3, W3, hrun, hO', hk'⟩ := Z.out.app (OweV.mk acc asset n) (by first | omega | (simp; omega))
          (try simp only [List.length_append, List.length_cons, List.length_nil, Nat.zero_add] at hrun hO')
          simp only [oweE] at hrun
          have HRUN := hideIt hrun
          have Z3 := hideIt hO'
          have Z4 := hideIt hk'
          clear hrun hO' hk'
          have K3 := hideIt ((Z4.out kb hnb hkz).trans K1.out)
          obtain ⟨k0, k1, k2, kf, kz⟩ := three_at K1.out
          clear Z Z4 K1
          rcases hg with hg | ⟨rfl, hg⟩
          · have hne : ¬ ya = acc := by omega
            go_upto_region 17 with (at_builtin; refine Lib.wpList_append_run _ rfl _ _ _ _ rfl _ _ rfl rfl _ _ HRUN.out ?_)
            clear HRUN k0 k1 k2 kf kz
            obtain ⟨k0, k1, k2, kf, kz⟩ := three_at K3.out
            obtain ⟨a', c', w', hrun, hO', hk'⟩ := Z3.out.app (OweV.mk ya ys yn) (by first | omega | (simp; omega))
            (try simp only [List.length_append, List.length_cons, List.length_nil, Nat.zero_add] at hrun hO')
            simp only [oweE] at hrun
            have HRUN := hideIt hrun
            have Z5 := hideIt hO'
            have Z6 := hideIt hk'
            clear hrun hO' hk'
            clear Z3 Z6 K3
            go_wp2_with (at_builtin; refine Lib.wpList_append_run _ rfl _ _ _ _ rfl _ _ rfl rfl _ _ HRUN.out ?_)
            clear HRUN
            go_wp2
            go_roundw
            case rel => first | exact ⟨t + 1, a', _, c', true, ok, _, rfl, rfl, rfl, by go_num, by omega, by simp, HN2, Z5⟩ | ((repeat apply Exists.intro); exact ⟨⟨t + 1, a', _, c', true, ok, _, rfl, rfl, rfl, by go_num, by omega, by simp, HN2, Z5⟩, rfl⟩)
            case measure => simp [intOf]; omega
          · have hne : ¬ ys = asset := by omega
            have hnl : ¬ ya < ya := by omega
            go_upto_region 17 with (at_builtin; refine Lib.wpList_append_run _ rfl _ _ _ _ rfl _ _ rfl rfl _ _ HRUN.out ?_)
            clear HRUN k0 k1 k2 kf kz
            obtain ⟨k0, k1, k2, kf, kz⟩ := three_at K3.out
            obtain ⟨a', c', w', hrun, hO', hk'⟩ := Z3.out.app (OweV.mk ya ys yn) (by first | omega | (simp; omega))
            (try simp only [List.length_append, List.length_cons, List.length_nil, Nat.zero_add] at hrun hO')
            simp only [oweE] at hrun
            have HRUN := hideIt hrun
            have Z5 := hideIt hO'
            have Z6 := hideIt hk'
            clear hrun hO' hk'
            clear Z3 Z6 K3
            go_wp2_with (at_builtin; refine Lib.wpList_append_run _ rfl _ _ _ _ rfl _ _ rfl rfl _ _ HRUN.out ?_)
            clear HRUN
            go_wp2
            go_roundw
            case rel => first | exact ⟨t + 1, a', _, c', true, ok, _, rfl, rfl, rfl, by go_num, by omega, by simp, HN2, Z5⟩ | ((repeat apply Exists.intro); exact ⟨⟨t + 1, a', _, c', true, ok, _, rfl, rfl, rfl, by go_num, by omega, by simp, HN2, Z5⟩, rfl⟩)
            case measure => simp [intOf]; omega
        · have HN2 : Hid (FT (t + 1) = (pre ++ [⟨ya, ys, yn⟩], pt, ok)) := by
            show _ = _
            rw [HN.out]
            unfold stpO
            rw [if_neg (by simp [hm1]), if_neg hg]
          have Z := hideIt (HP.out.keep (below1 wr (.cells #[.int .i64 ya, .int .i64 ys, .int .i64 yn] 48)))
          have K1 := hideIt (heap_alloc_new wr (.cells #[.int .i64 ya, .int .i64 ys, .int .i64 yn] 48))
          clear HN HP HWN HNE hm1
          go_upto_region 10 with fail
          clear c0 c1 c2 hblr
          generalize wr.alloc (.cells #[.int .i64 ya, .int .i64 ys, .int .i64 yn] 48) = W1 at *
          generalize wr.heap.size = kb at *
          obtain ⟨a', c', w', hrun, hO', hk'⟩ := Z.out.app (OweV.mk ya ys yn) (by first | omega | (simp; omega))
          (try simp only [List.length_append, List.length_cons, List.length_nil, Nat.zero_add] at hrun hO')
          simp only [oweE] at hrun
          have HRUN := hideIt hrun
          have Z3 := hideIt hO'
          have Z4 := hideIt hk'
          clear hrun hO' hk'
          obtain ⟨k0, k1, k2, kf, kz⟩ := three_at K1.out
          clear Z Z4 K1
          cases pt
          · have hg2 : ¬ (acc < ya ∨ ya = acc ∧ asset < ys) := fun hc => hg ⟨rfl, hc⟩
            have hgl : ¬ acc < ya := fun hc => hg2 (.inl hc)
            clear hg
            by_cases hae : ya = acc
            · have hse : ¬ ys = asset := fun hc => hm ⟨hae, hc⟩
              have hsl : ¬ asset < ys := fun hc => hg2 (.inr ⟨hae, hc⟩)
              subst hae
              clear hm hg2
              go_wp2_with (at_builtin; refine Lib.wpList_append_run _ rfl _ _ _ _ rfl _ _ rfl rfl _ _ HRUN.out ?_)
              clear HRUN
              go_wp2
              go_roundw
              case rel => first | exact ⟨t + 1, a', _, c', false, ok, _, rfl, rfl, rfl, by go_num, by omega, by simp, HN2, Z3⟩ | ((repeat apply Exists.intro); exact ⟨⟨t + 1, a', _, c', false, ok, _, rfl, rfl, rfl, by go_num, by omega, by simp, HN2, Z3⟩, rfl⟩)
              case measure => simp [intOf]; omega
            · clear hm hg2
              go_wp2_with (at_builtin; refine Lib.wpList_append_run _ rfl _ _ _ _ rfl _ _ rfl rfl _ _ HRUN.out ?_)
              clear HRUN
              go_wp2
              go_roundw
              case rel => first | exact ⟨t + 1, a', _, c', false, ok, _, rfl, rfl, rfl, by go_num, by omega, by simp, HN2, Z3⟩ | ((repeat apply Exists.intro); exact ⟨⟨t + 1, a', _, c', false, ok, _, rfl, rfl, rfl, by go_num, by omega, by simp, HN2, Z3⟩, rfl⟩)
              case measure => simp [intOf]; omega
          · clear hg
            by_cases hae : ya = acc
            · have hse : ¬ ys = asset := fun hc => hm ⟨hae, hc⟩
              subst hae
              clear hm
              go_wp2_with (at_builtin; refine Lib.wpList_append_run _ rfl _ _ _ _ rfl _ _ rfl rfl _ _ HRUN.out ?_)
              clear HRUN
              go_wp2
              go_roundw
              case rel => first | exact ⟨t + 1, a', _, c', true, ok, _, rfl, rfl, rfl, by go_num, by omega, by simp, HN2, Z3⟩ | ((repeat apply Exists.intro); exact ⟨⟨t + 1, a', _, c', true, ok, _, rfl, rfl, rfl, by go_num, by omega, by simp, HN2, Z3⟩, rfl⟩)
              case measure => simp [intOf]; omega
            · clear hm
              go_wp2_with (at_builtin; refine Lib.wpList_append_run _ rfl _ _ _ _ rfl _ _ rfl rfl _ _ HRUN.out ?_)
              clear HRUN
              go_wp2
              go_roundw
              case rel => first | exact ⟨t + 1, a', _, c', true, ok, _, rfl, rfl, rfl, by go_num, by omega, by simp, HN2, Z3⟩ | ((repeat apply Exists.intro); exact ⟨⟨t + 1, a', _, c', true, ok, _, rfl, rfl, rfl, by go_num, by omega, by simp, HN2, Z3⟩, rfl⟩)
              case measure => simp [intOf]; omega
    · have hltI : ¬ (t : Int) < (l.length : Int) := by omega
      have het : t = l.length := by omega
      subst het
      have hF := HF.out
      rw [← HFL.out, HFT.out] at hF
      clear HF HFL HFT HST HY HH HLN
      cases pt
      · simp only [Bool.false_eq_true, if_false] at hF
        have HE := hideIt hF
        clear hF
        obtain ⟨a', c', w', hrun, hO', hk'⟩ := HP.out.app (OweV.mk acc asset n) (by first | omega | (simp; omega))
        (try simp only [List.length_append, List.length_cons, List.length_nil, Nat.zero_add] at hrun hO')
        simp only [oweE] at hrun
        have HRUN := hideIt hrun
        have Z3 := hideIt hO'
        have Z4 := hideIt hk'
        clear hrun hO' hk'
        clear HP Z4
        go_wp2_with (at_builtin; refine Lib.wpList_append_run _ rfl _ _ _ _ rfl _ _ rfl rfl _ _ HRUN.out ?_)
        clear HRUN
        go_wp2
        go_ret2
        unfold OweBack
        rw [← HE.out.1, ← HE.out.2]
        exact ⟨a', c', by simp, by simpa using Z3.out.row, Z3.out.bel⟩
      · simp only [if_true] at hF
        have HE := hideIt hF
        clear hF
        go_wp2
        go_ret2
        unfold OweBack
        rw [← HE.out.1, ← HE.out.2]
        exact ⟨_, _, rfl, HP.out.row, HP.out.bel⟩
set_option maxHeartbeats 2000000 in
theorem rOwe0_is (v : Value) (l : List OweV) (acc asset : Int) (w : World) (h : Owes w v l) : Calls Try.prog 69 #[v, .int .i64 acc, .int .i64 asset, .int .i64 0] w (OwrBack (oweD acc asset 0 l) w) := by
  have HO := hideIt h
  obtain ⟨a, c, rfl⟩ := h.slice
  have e : oweD acc asset 0 l = (l, true) := by unfold oweD; rw [if_pos rfl]
  rw [e]
  clear e h
  go_enter Try.func69, Try.ntmps69
  go_wp2
  go_ret2
  exact ⟨_, _, rfl, HO.out, Below.refl _ _⟩
theorem oweD_len {acc asset n : Int} {l : List OweV} : (oweD acc asset n l).1.length ≤ l.length + 1 := by
  unfold oweD
  split
  · simp
  · simp only
    unfold oweL
    split
    · rw [List.length_modify]; omega
    · rw [laid_len]; omega
theorem rOwr_is (v : Value) (l : List OweV) (acc asset n : Int) (w : World) (h : Owes w v l) (hs : srtB owB l = true) (hl : l.length ≤ 1000) (hy : ∀ y ∈ l, 0 ≤ y.n ∧ y.n ≤ 1152921504606846976) (hn : 0 ≤ n ∧ n ≤ 1000000000000) : Calls Try.prog 69 #[v, .int .i64 acc, .int .i64 asset, .int .i64 n] w (OwrBack (oweD acc asset n l) w) := by
  by_cases h0 : n = 0
  · subst h0
    exact rOwe0_is v l acc asset w h
  · refine (rOwe_is v l acc asset n w h hs hl hy (by omega)).mono ?_
    rintro e w' ⟨a, c, rfl, ho, hb⟩
    exact ⟨a, c, rfl, own_sgot ho (by have := oweD_len (acc := acc) (asset := asset) (n := n) (l := l); omega), hb⟩
end Go.Proofs.Ytgnmghcdfihmgaa
