/- The document's without, walked. -/
import Derived.Test.YtpfdmjphoeljiaaDcP
import Derived.Test.YtpfdmjphoeljiaaROe
namespace Go.Proofs.Ytpfdmjphoeljiaa
open Go.RowKit
set_option linter.all false
theorem four5_at {w : World} {p : Nat} {t : TypeId} {a b c d : Value} (h : w.heap[p]? = some (.cells #[a, b, c, d] t (0, 0))) : (w.cell? ⟨p, 0, none⟩ = some a ∧ w.cell? ⟨p, 1, none⟩ = some b ∧ w.cell? ⟨p, 2, none⟩ = some c ∧ w.cell? ⟨p, 3, none⟩ = some d) ∧ (∀ j, w.frozen? ⟨p, j, none⟩ = false) ∧ p < w.heap.size :=
  ⟨⟨by rw [cell_at h]; rfl, by rw [cell_at h]; rfl, by rw [cell_at h]; rfl, by rw [cell_at h]; rfl⟩, fun j => free_at h j, (Array.getElem?_eq_some_iff.1 h).1⟩
def four4 (wr : World) (R : Nat) (v0 v1 v2 v3 : Value) : World := (((wr.setCell ⟨R, 0, none⟩ v0).setCell ⟨R, 1, none⟩ v1).setCell ⟨R, 2, none⟩ v2).setCell ⟨R, 3, none⟩ v3
/-- The side without an order, on its way: the result's block, the order's box, the new row. -/
structure WO (w : World) (pre : List OrdV) (x : OrdV) (u : Value) (W : World) : Prop where
  res : W.heap[w.heap.size]? = some (.cells #[.int .i64 0, .int .i64 0, .int .i64 0, .int .i64 0] 49 (0, 0))
  bx : W.heap[w.heap.size + 1]? = some (.cells (ordE x).toArray 49 (0, 0))
  row : W.ownsRow (w.heap.size + 2) 49 4 u pre.length (celC ordE pre)
  bel : Below w.heap.size w W
theorem WO.first (w : World) : WO w [] zOrd (.slice none 0 0) ((w.alloc (.cells #[.int .i64 0, .int .i64 0, .int .i64 0, .int .i64 0] 49)).alloc (.cells #[.int .i64 0, .int .i64 0, .int .i64 0, .int .i64 0] 49)) := by
  have ht := two_heap w (.cells #[.int .i64 0, .int .i64 0, .int .i64 0, .int .i64 0] 49) (.cells #[.int .i64 0, .int .i64 0, .int .i64 0, .int .i64 0] 49)
  exact ⟨ht.1, ht.2.1, own_nil _ _, below2 w _ _⟩
theorem WO.put {w W : World} {pre : List OrdV} {x : OrdV} {u : Value} (h : WO w pre x u W) (y : OrdV) : WO w pre y u (four4 W (w.heap.size + 1) (.int .i64 y.id) (.int .i64 y.acc) (.int .i64 y.price) (.int .i64 y.left)) := by
  have hne : u.ownBlock ≠ some (w.heap.size + 1) := fun e => by
    have := (h.row.lt _ e).1
    omega
  refine ⟨setOther _ (setOther _ (setOther _ (setOther _ h.res (by omega)) (by omega)) (by omega)) (by omega), ?_, own_ne (own_ne (own_ne (own_ne h.row hne) hne) hne) hne, belowSet _ (belowSet _ (belowSet _ (belowSet _ h.bel (by omega)) (by omega)) (by omega)) (by omega)⟩
  exact heap_set (heap_set (heap_set (heap_set h.bx 0 _) 1 _) 2 _) 3 _
theorem WO.app {w W : World} {pre : List OrdV} {x : OrdV} {u : Value} (h : WO w pre x u W) (y : OrdV) (hl : pre.length ≤ 1000) : ∃ a' c' w', (Builtin.append_ #[22, 22] 22 #[u, .slice (some ⟨W.heap.size, 0, none⟩) 1 1]).run Try.prog (W.alloc (.cells (ordE y).toArray 49)) = .ok (.slice a' (pre.length + 1) c') w' ∧ WO w (pre ++ [y]) x (.slice a' (pre.length + 1) c') w' := by
  have hb := below1 W (.cells (ordE y).toArray 49)
  have hz := (Array.getElem?_eq_some_iff.1 h.bx).1
  have hO := own_keep h.row hb
  obtain ⟨v', w', hrun, how, hgr⟩ := app1 (enc := ordE) (t := 22) ordK ord1 Try.underlying22 info36 rfl (by omega) (W.alloc (.cells (ordE y).toArray 49)) (w.heap.size + 2) u pre y W.heap.size 1 (Nat.le_trans (by omega) hb.size) hO (heap_alloc_new W _) (by omega) (by unfold maxLen; omega)
  obtain ⟨a', c', rfl⟩ := own_len how
  have hlen : (pre ++ [y]).length = pre.length + 1 := by simp
  rw [hlen] at hrun how
  have hkp : ∀ k, k < w.heap.size + 2 → w'.heap[k]? = W.heap[k]? := fun k hk => by
    refine (hgr.block _ (Nat.lt_of_lt_of_le (by omega) hb.size) (fun e => ?_)).trans (hb.block _ (by omega))
    have := (hO.lt _ e.symm).1
    omega
  exact ⟨a', c', w', hrun, (hkp _ (by omega)).trans h.res, (hkp _ (by omega)).trans h.bx, by rw [hlen]; exact how, grown_own hgr hO (by omega) (below_via h.bel hb)⟩
def WtBack (R : List OrdV × OrdV × Bool) (w : World) (e : Ending) (w' : World) : Prop := ∃ a c, e = .returned (.tuple #[.slice a R.1.length c, .agg (ordE R.2.1).toArray, .bool R.2.2]) ∧ w'.ownsRow w.heap.size 49 4 (.slice a R.1.length c) R.1.length (celC ordE R.1) ∧ Below w.heap.size w w'
theorem WO.done {w W : World} {pre : List OrdV} {x : OrdV} {u : Value} (h : WO w pre x u W) : Hid ((four4 W w.heap.size (.int .i64 x.id) (.int .i64 x.acc) (.int .i64 x.price) (.int .i64 x.left)).heap[w.heap.size]? = some (.cells (ordE x).toArray 49 (0, 0)) ∧ (four4 W w.heap.size (.int .i64 x.id) (.int .i64 x.acc) (.int .i64 x.price) (.int .i64 x.left)).ownsRow w.heap.size 49 4 u pre.length (celC ordE pre) ∧ Below w.heap.size w (four4 W w.heap.size (.int .i64 x.id) (.int .i64 x.acc) (.int .i64 x.price) (.int .i64 x.left))) := by
  have hne : u.ownBlock ≠ some w.heap.size := fun e => by
    have := (h.row.lt _ e).1
    omega
  refine ⟨heap_set (heap_set (heap_set (heap_set h.res 0 _) 1 _) 2 _) 3 _, own_base (own_ne (own_ne (own_ne (own_ne h.row hne) hne) hne) hne) (by omega), belowSet _ (belowSet _ (belowSet _ (belowSet _ h.bel (by omega)) (by omega)) (by omega)) (by omega)⟩
theorem wth_len1 (acc id : Int) : ∀ (l : List OrdV) (x : List OrdV × OrdV × Bool), (l.foldl (wthS acc id) x).1.length ≤ x.1.length + l.length
  | [], x => by simp
  | o :: l, x => by
    rw [List.foldl_cons]
    refine Nat.le_trans (wth_len1 acc id l _) ?_
    have : (wthS acc id x o).1.length ≤ x.1.length + 1 := by
      unfold wthS
      split <;> simp
    rw [List.length_cons]
    omega
set_option maxHeartbeats 16000000 in
set_option maxRecDepth 100000 in
theorem rWithout_is (v : Value) (l : List OrdV) (acc id : Int) (w : World) (h : Ords w v l) (hl : l.length ≤ 1000) : Calls Try.prog 34 #[v, .int .i64 acc, .int .i64 id] w (WtBack (wthL acc id l) w) := by
  obtain ⟨a, c, rfl, h8, hr⟩ := h.ords
  have HH := hideIt hr
  clear hr h
  have HST := hideIt (fun t (ht : t < l.length) => show (l.take (t + 1)).foldl (wthS acc id) ([], zOrd, false) = wthS acc id ((l.take t).foldl (wthS acc id) ([], zOrd, false)) l[t] by rw [List.take_succ_eq_append_getElem ht, List.foldl_append]; rfl)
  have HFL := hideIt (show (l.take l.length).foldl (wthS acc id) ([], zOrd, false) = wthL acc id l by rw [List.take_length]; rfl)
  have HI : Hid ((l.take 0).foldl (wthS acc id) ([], zOrd, false) = ([], zOrd, false)) := by show _ = _; simp
  have HLN := hideIt (fun t => wth_len1 acc id (l.take t) ([], zOrd, false))
  have X0 := hideIt (WO.first w)
  generalize wthL acc id l = R at *
  generalize hfu : (fun t : Nat => (l.take t).foldl (wthS acc id) ([], zOrd, false)) = FT at *
  have HT : Hid (∀ t, (l.take t).foldl (wthS acc id) ([], zOrd, false) = FT t) := fun t => congrFun hfu t
  simp only [HT.out] at HLN HST HFL HI
  clear hfu HT
  go_enter Try.func34, Try.ntmps34
  go_wp2
  generalize (w.alloc (.cells #[.int .i64 0, .int .i64 0, .int .i64 0, .int .i64 0] 49)).alloc (.cells #[.int .i64 0, .int .i64 0, .int .i64 0, .int .i64 0] 49) = W0 at *
  go_loopw [9, 11, 12] (fun u fv x wr => ∃ t : Nat, ∃ ua un uc, ∃ fd : Bool, ∃ pre xo, u = .slice ua un uc ∧ fv = .bool fd ∧ x = .int .i64 t ∧ t ≤ l.length ∧ un = pre.length ∧ Hid (FT t = (pre, xo, fd)) ∧ Hid (WO w pre xo (.slice ua un uc) wr)) (fun _ _ x _ => l.length - (intOf x).toNat)
  case atStart => exact ⟨0, none, 0, 0, false, [], zOrd, rfl, rfl, rfl, Nat.zero_le _, rfl, HI, X0⟩
  case round =>
    clear HI X0
    obtain ⟨t, ua, un, uc, fd, pre, xo, rfl, rfl, rfl, ht, hun, HFT, HP⟩ := hrel
    have hpl := HLN.out t
    rw [HFT.out] at hpl
    simp only [List.length_take, List.length_nil] at hpl
    subst hun
    by_cases hlt : t < l.length
    · have hltI : (t : Int) < (l.length : Int) := by omega
      have ht0 : (0 : Int) ≤ (t : Int) := by omega
      have hwt : IntKind.i64.wrap ((t : Int) + 1) = ((t + 1 : Nat) : Int) := by rw [IntKind.wrap_i64]; omega
      obtain ⟨b, off, rfl, hbl, q0, q1, q2, q3⟩ := HH.out t hlt
      have hS := HST.out t hlt
      rw [HFT.out] at hS
      have HN := hideIt hS
      clear hS HST HFT HH HFL HLN
      generalize l[t] = y at *
      obtain ⟨yi, ya, yp, yl⟩ := y
      dsimp only at q0 q1 q2 q3
      have hblr : b < wr.heap.size := Nat.lt_of_lt_of_le hbl HP.out.bel.size
      have c0 := (HP.out.bel.cell (p := ⟨b, off + t * 4, none⟩) hbl).trans q0
      have c1 := (HP.out.bel.cell (p := ⟨b, off + t * 4 + 1, none⟩) hbl).trans q1
      have c2 := (HP.out.bel.cell (p := ⟨b, off + t * 4 + 2, none⟩) hbl).trans q2
      have c3 := (HP.out.bel.cell (p := ⟨b, off + t * 4 + 3, none⟩) hbl).trans q3
      clear q0 q1 q2 q3
      by_cases hm : yi = id ∧ ya = acc
      · obtain ⟨rfl, rfl⟩ := hm
        have HN2 : Hid (FT (t + 1) = (pre, ⟨yi, ya, yp, yl⟩, true)) := by
          show _ = _
          rw [HN.out]
          unfold wthS
          rw [if_pos (by simp [outP])]
        have Z := hideIt (HP.out.put ⟨yi, ya, yp, yl⟩)
        unfold four4 at Z
        dsimp only at Z
        obtain ⟨xi, xa, xp, xl⟩ := xo
        obtain ⟨⟨g0, g1, g2, g3⟩, hbf, hbz⟩ := four5_at HP.out.bx
        have hnb : b ≠ w.heap.size + 1 := by omega
        clear HN HP
        go_wp2
        go_roundw
        case rel => exact ⟨t + 1, ua, pre.length, uc, true, pre, _, rfl, rfl, by go_num, by omega, rfl, HN2, Z⟩
        case measure => simp [intOf]; omega
      · have HN2 : Hid (FT (t + 1) = (pre ++ [⟨yi, ya, yp, yl⟩], xo, fd)) := by
          show _ = _
          rw [HN.out]
          unfold wthS
          rw [if_neg (by simpa [outP] using hm)]
        obtain ⟨a', c', w', hrun, hO'⟩ := HP.out.app ⟨yi, ya, yp, yl⟩ (by omega)
        simp only [ordE] at hrun
        have HRUN := hideIt hrun
        have Z := hideIt hO'
        clear hrun hO' HN HP
        by_cases hi : yi = id
        · have hac : ¬ ya = acc := fun e => hm ⟨hi, e⟩
          subst hi
          clear hm
          go_wp2_with (at_builtin; refine Lib.wpList_append_run _ rfl _ _ _ _ rfl _ _ rfl rfl _ _ HRUN.out ?_)
          clear HRUN
          go_wp2
          go_roundw
          case rel => first | exact ⟨t + 1, a', _, c', fd, _, xo, rfl, rfl, by go_num, by omega, by simp, HN2, Z⟩ | ((repeat apply Exists.intro); exact ⟨⟨t + 1, a', _, c', fd, _, xo, rfl, rfl, by go_num, by omega, by simp, HN2, Z⟩, rfl⟩)
          case measure => simp [intOf]; omega
        · clear hm
          go_wp2_with (at_builtin; refine Lib.wpList_append_run _ rfl _ _ _ _ rfl _ _ rfl rfl _ _ HRUN.out ?_)
          clear HRUN
          go_wp2
          go_roundw
          case rel => first | exact ⟨t + 1, a', _, c', fd, _, xo, rfl, rfl, by go_num, by omega, by simp, HN2, Z⟩ | ((repeat apply Exists.intro); exact ⟨⟨t + 1, a', _, c', fd, _, xo, rfl, rfl, by go_num, by omega, by simp, HN2, Z⟩, rfl⟩)
          case measure => simp [intOf]; omega
    · have hltI : ¬ (t : Int) < (l.length : Int) := by omega
      have het : t = l.length := by omega
      subst het
      have HE : Hid (R = (pre, xo, fd)) := by
        show _ = _
        rw [← HFL.out, HFT.out]
      obtain ⟨xi, xa, xp, xl⟩ := xo
      have HD := HP.out.done
      have HB := hideIt HP.out.bx
      have HR := hideIt HP.out.res
      unfold four4 at HD
      simp only [ordE] at HB HD
      (try dsimp only at HB)
      (try dsimp only at HD)
      obtain ⟨⟨d0, d1, d2, d3⟩, -, dz⟩ := four5_at HB.out
      obtain ⟨⟨e0, e1, e2, e3⟩, ef, ez⟩ := four5_at HR.out
      clear HP HH HST HFL HLN HFT HB HR
      have hnr : w.heap.size + 1 ≠ w.heap.size := by omega
      go_upto_region 11 with fail
      go_region_held3 (fun W => W.cell? ⟨w.heap.size + 1, 0, none⟩ = some (.int .i64 xi) ∧ W.cell? ⟨w.heap.size + 1, 1, none⟩ = some (.int .i64 xa) ∧ W.cell? ⟨w.heap.size + 1, 2, none⟩ = some (.int .i64 xp) ∧ W.cell? ⟨w.heap.size + 1, 3, none⟩ = some (.int .i64 xl)) (go_keep) (fail)
      go_wp2
      revert HD
      generalize (World.setCell _ ⟨w.heap.size, 3, none⟩ _) = WF
      intro HD
      exact bodyPost_ret (v := .tuple #[.slice ua pre.length uc, .agg #[.int .i64 xi, .int .i64 xa, .int .i64 xp, .int .i64 xl], .bool fd]) (by simp [results, Try.results34, go_sem, cell_at HD.out.1]) rfl (by unfold WtBack; rw [HE.out]; exact ⟨_, _, rfl, HD.out.2.1, by first | exact HD.out.2.2 | exact HD.out.2.2.drew⟩)
end Go.Proofs.Ytpfdmjphoeljiaa
