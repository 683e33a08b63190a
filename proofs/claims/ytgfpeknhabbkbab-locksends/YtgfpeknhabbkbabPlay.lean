/- Steps, one behind the other: the walk. -/
import Derived.Test.YtgfpeknhabbkbabPlayP
import Derived.Test.YtgfpeknhabbkbabLiveX
import Derived.Test.YtgfpeknhabbkbabMayP
namespace Go.Proofs.Ytgfpeknhabbkbab
open Go.RowKit
theorem MayT.small {T : TabV} (h : MayT T) : T.held.length ≤ 1000000 ∧ T.wait.length ≤ 1000000 := by
  have := h.len
  omega
set_option linter.all false
theorem SGot.stps {w : World} {v : Value} {l : List StepV} (h : Stps w v l) : ∃ a c, v = .slice a l.length c ∧ l.length * 40 ≤ 140737488355328 ∧ ∀ i (h : i < l.length), ∃ b off, a = some ⟨b, off, none⟩ ∧ b < w.heap.size ∧ w.cell? ⟨b, off + i * 5, none⟩ = some (.int .i64 (l[i]).1.1) ∧ w.cell? ⟨b, off + i * 5 + 1, none⟩ = some (.int .i64 (l[i]).1.2) ∧ w.cell? ⟨b, off + i * 5 + 2, none⟩ = some (.int .i64 (l[i]).2.1.1) ∧ w.cell? ⟨b, off + i * 5 + 3, none⟩ = some (.int .i64 (l[i]).2.1.2) ∧ w.cell? ⟨b, off + i * 5 + 4, none⟩ = some (.bool (l[i]).2.2) := by
  obtain ⟨h8, a, c, rfl, _, hr⟩ := h
  refine ⟨a, c, rfl, h8, fun i hi => ?_⟩
  obtain ⟨b, off, rfl, hlt, hc⟩ := hr (by omega)
  have g := celC_get stpK l i hi
  exact ⟨b, off, rfl, hlt, (hc (i * 5) (by omega)).trans (g 0 (by omega)), (hc (i * 5 + 1) (by omega)).trans (g 1 (by omega)), (hc (i * 5 + 2) (by omega)).trans (g 2 (by omega)), (hc (i * 5 + 3) (by omega)).trans (g 3 (by omega)), (hc (i * 5 + 4) (by omega)).trans (g 4 (by omega))⟩
/-- A table on the way: its result's box, its own box. -/
structure PT (w : World) (T : TabV) (h v : Value) (wx : World) : Prop where
  res : wx.heap[w.heap.size]? = some (.cells #[.slice none 0 0, .slice none 0 0] 25 (0, 0))
  box : wx.heap[w.heap.size + 1]? = some (.cells #[h, v] 25 (0, 0))
  own : TabOwn (w.heap.size + 2) T h v wx
  may : MayT T
  bel : Below w.heap.size w wx
  siz : w.heap.size + 2 ≤ wx.heap.size
theorem PT.keep {w wx wy : World} {T : TabV} {h v : Value} (a : PT w T h v wx) (hb : Below wx.heap.size wx wy) : PT w T h v wy :=
  ⟨(hb.block _ (by have := a.siz; omega)).trans a.res, (hb.block _ (by have := a.siz; omega)).trans a.box, a.own.keep hb, a.may, below_via a.bel hb, Nat.le_trans a.siz hb.size⟩
/-- What a step has brought lies in a box of its own. -/
structure PQ (w : World) (T : TabV) (h v : Value) (P : Nat) (T' : TabV) (h' v' : Value) (wx : World) : Prop where
  pt : PT w T h v wx
  box : wx.heap[P]? = some (.cells #[h', v'] 25 (0, 0))
  own : TabOwn (w.heap.size + 2) T' h' v' wx
  lP : w.heap.size + 2 ≤ P
theorem PQ.put {w W w5 : World} {T T' : TabV} {h v z0 z1 h' v' : Value} {P : Nat} (a : PT w T h v W) (hP : W.heap[P]? = some (.cells #[z0, z1] 25 (0, 0))) (lP : w.heap.size + 2 ≤ P) (ho : TabOwn W.heap.size T' h' v' w5) (hb : Below W.heap.size W w5) : PQ w T h v P T' h' v' ((w5.setCell ⟨P, 0, none⟩ h').setCell ⟨P, 1, none⟩ v') := by
  have hp5 := (hb.block _ (Array.getElem?_eq_some_iff.1 hP).1).trans hP
  have k := a.keep hb
  have hs := a.siz
  exact ⟨⟨setOther _ (setOther _ k.res (by omega)) (by omega), setOther _ (setOther _ k.box (by omega)) (by omega), ⟨own_cell (own_cell k.own.oh hp5 (by decide)) (heap_set hp5 0 h') (by decide), own_cell (own_cell k.own.ov hp5 (by decide)) (heap_set hp5 0 h') (by decide)⟩, k.may, belowSet _ (belowSet _ k.bel (by omega)) (by omega), by simpa using k.siz⟩, put2 hp5 h' v', ⟨own_base (own_cell (own_cell ho.oh hp5 (by decide)) (heap_set hp5 0 h') (by decide)) hs, own_base (own_cell (own_cell ho.ov hp5 (by decide)) (heap_set hp5 0 h') (by decide)) hs⟩, lP⟩
theorem PQ.take {w wx : World} {T T' : TabV} {h v h' v' : Value} {P : Nat} (a : PQ w T h v P T' h' v' wx) (hm : MayT T') : PT w T' h' v' ((wx.setCell ⟨w.heap.size + 1, 0, none⟩ h').setCell ⟨w.heap.size + 1, 1, none⟩ v') :=
  ⟨setOther _ (setOther _ a.pt.res (by omega)) (by omega), put2 a.pt.box h' v', ⟨own_cell (own_cell a.own.oh a.pt.box (by decide)) (heap_set a.pt.box 0 h') (by decide), own_cell (own_cell a.own.ov a.pt.box (by decide)) (heap_set a.pt.box 0 h') (by decide)⟩, hm, belowSet _ (belowSet _ a.pt.bel (by omega)) (by omega), by simpa using a.pt.siz⟩
theorem PT.ret {w wx : World} {T : TabV} {h v : Value} (a : PT w T h v wx) : ((wx.setCell ⟨w.heap.size, 0, none⟩ h).setCell ⟨w.heap.size, 1, none⟩ v).heap[w.heap.size]? = some (.cells #[h, v] 25 (0, 0)) ∧ TabOwn w.heap.size T h v ((wx.setCell ⟨w.heap.size, 0, none⟩ h).setCell ⟨w.heap.size, 1, none⟩ v) ∧ Below w.heap.size w ((wx.setCell ⟨w.heap.size, 0, none⟩ h).setCell ⟨w.heap.size, 1, none⟩ v) :=
  ⟨put2 a.res h v, ⟨own_base (own_cell (own_cell a.own.oh a.res (by decide)) (heap_set a.res 0 h) (by decide)) (by omega), own_base (own_cell (own_cell a.own.ov a.res (by decide)) (heap_set a.res 0 h) (by decide)) (by omega)⟩, belowSet _ (belowSet _ a.bel (by omega)) (by omega)⟩
def PlayBack (T : TabV) (w : World) (e : Ending) (w' : World) : Prop := ∃ h v, e = .returned (.agg #[h, v]) ∧ TabOwn w.heap.size T h v w' ∧ Below w.heap.size w w'
theorem play_take {l : List StepV} {t : Nat} (h : t < l.length) (h60 : t < 60) : ((l.take (t + 1)).foldl stepL zTab) = stepL ((l.take t).foldl stepL zTab) l[t] := by
  rw [List.take_succ_eq_append_getElem h, List.foldl_append]
  rfl
set_option maxHeartbeats 8000000 in
set_option maxRecDepth 100000 in
theorem played_is (v0 : Value) (l : List StepV) (w : World) (h0 : Stps w v0 l) : Calls Try.prog 4 #[v0] w (PlayBack (playL l) w) := by
  obtain ⟨a, c, rfl, h8, hr⟩ := h0.stps
  have HH := hideIt hr
  clear hr h0
  have h2 := two_heap w (.cells #[.slice none 0 0, .slice none 0 0] 25) (.cells #[.slice none 0 0, .slice none 0 0] 25)
  have X0 : Hid (PT w zTab (.slice none 0 0) (.slice none 0 0) ((w.alloc (.cells #[.slice none 0 0, .slice none 0 0] 25)).alloc (.cells #[.slice none 0 0, .slice none 0 0] 25))) := ⟨h2.1, h2.2.1, zOwn _ _, may_z, below2 w _ _, by omega⟩
  clear h2
  go_enter Try.func4, Try.ntmps4
  go_wp2
  go_loopw [4] (fun v4 wr => ∃ t : Nat, v4 = .int .i64 t ∧ t ≤ l.length ∧ Hid (∃ h v, PT w ((l.take t).foldl stepL zTab) h v wr ∧ t ≤ 60)) (fun v _ => l.length - (intOf v).toNat)
  case atStart => exact ⟨0, rfl, Nat.zero_le _, hideIt ⟨_, _, X0.out, by omega⟩⟩
  case round =>
    clear X0
    obtain ⟨t, rfl, ht, HR⟩ := hrel
    obtain ⟨h, v, X, h60⟩ := HR.out
    clear HR
    obtain ⟨ha, hc, rfl⟩ := own_len X.own.oh
    obtain ⟨va, vc, rfl⟩ := own_len X.own.ov
    by_cases hlt : t < l.length
    · by_cases h6 : t < 60
      · have hltI : (t : Int) < (l.length : Int) := by omega
        have ht0 : (0 : Int) ≤ (t : Int) := by omega
        have hw : IntKind.i64.wrap ((t : Int) + 1) = ((t + 1 : Nat) : Int) := by rw [IntKind.wrap_i64]; omega
        have h6I : (t : Int) < 60 := by omega
        obtain ⟨b, off, rfl, hbl, q0, q1, q2, q3, q4⟩ := HH.out t hlt
        have hB := X.bel
        have hblr : b < wr.heap.size := Nat.lt_of_lt_of_le hbl hB.size
        have HT := hideIt (play_take hlt h6)
        generalize (l.take t).foldl stepL zTab = T at *
        have hb1 := below1 wr (.cells #[.slice ha T.held.length hc, .slice va T.wait.length vc] 25)
        have X1 := hideIt (X.keep hb1)
        have N1 := hideIt (heap_alloc_new wr (.cells #[.slice ha T.held.length hc, .slice va T.wait.length vc] 25))
        have lP : w.heap.size + 2 ≤ wr.heap.size := X.siz
        obtain ⟨x0, x1, -, -, xl⟩ := two_at X.box
        have hB1 := X1.out.bel
        generalize l[t] = en at *
        obtain ⟨⟨kk, kn⟩, ⟨tc, tq⟩, fr⟩ := en
        dsimp only at q0 q1 q2 q3 q4
        have HS : Hid (∀ W, Below (wr.alloc (.cells #[.slice ha T.held.length hc, .slice va T.wait.length vc] 25)).heap.size (wr.alloc (.cells #[.slice ha T.held.length hc, .slice va T.wait.length vc] 25)).drew W → W.cell? ⟨w.heap.size + 1, 0, none⟩ = some (.slice ha T.held.length hc) ∧ W.cell? ⟨w.heap.size + 1, 1, none⟩ = some (.slice va T.wait.length vc) ∧ W.cell? ⟨b, off + t * 5, none⟩ = some (.int .i64 kk) ∧ W.cell? ⟨b, off + t * 5 + 1, none⟩ = some (.int .i64 kn) ∧ W.cell? ⟨b, off + t * 5 + 2, none⟩ = some (.int .i64 tc) ∧ W.cell? ⟨b, off + t * 5 + 3, none⟩ = some (.int .i64 tq)) := by
          intro W hW
          have hW2 := below_via (X1.out.keep (Below.refl _ _).drew).bel hW
          obtain ⟨y0, y1, -, -, -⟩ := two_at ((X1.out.keep (Below.refl _ _).drew).keep hW).box
          exact ⟨y0, y1, (hW2.cell (p := ⟨b, off + t * 5, none⟩) hbl).trans q0, (hW2.cell (p := ⟨b, off + t * 5 + 1, none⟩) hbl).trans q1, (hW2.cell (p := ⟨b, off + t * 5 + 2, none⟩) hbl).trans q2, (hW2.cell (p := ⟨b, off + t * 5 + 3, none⟩) hbl).trans q3⟩
        have s0 := (hB1.cell (p := ⟨b, off + t * 5, none⟩) hbl).trans q0
        have s1 := (hB1.cell (p := ⟨b, off + t * 5 + 1, none⟩) hbl).trans q1
        have s2 := (hB1.cell (p := ⟨b, off + t * 5 + 2, none⟩) hbl).trans q2
        have s3 := (hB1.cell (p := ⟨b, off + t * 5 + 3, none⟩) hbl).trans q3
        have s4 := (hB1.cell (p := ⟨b, off + t * 5 + 4, none⟩) hbl).trans q4
        have hTab := X1.out.own.tab X.may.small.1 X.may.small.2
        clear q0 q1 q2 q3 q4 hB X hb1 hB1 HH
        go_upto_region 7 with fail
        generalize wr.alloc (.cells #[.slice ha T.held.length hc, .slice va T.wait.length vc] 25) = W1 at *
        generalize wr.heap.size = P at *
        have hbl1 : b < W1.heap.size := by have := X1.out.bel.size; omega
        obtain ⟨z0, z1, -, -, zl⟩ := two_at X1.out.box
        have nP1 : P ≠ w.heap.size + 1 := by omega
        have nPb : P ≠ b := by omega
        have X1d := hideIt (X1.out.keep (Below.refl _ _).drew)
        cases fr
        · have HC := hideIt (ask_is T _ _ kk kn tc tq W1.drew (hTab.keep (Below.refl _ W1).drew))
          unfold AskBack at HC
          have HE1 : Hid ((askL T (kk, kn) (tc, tq)).2.2 = 0 → stepL T ((kk, kn), (tc, tq), false) = (askL T (kk, kn) (tc, tq)).1) := fun e => by
            unfold stepL
            simp [e]
          have HE2 : Hid ((askL T (kk, kn) (tc, tq)).2.2 ≠ 0 → stepL T ((kk, kn), (tc, tq), false) = T) := fun e => by
            unfold stepL
            simp [e]
          have HM := hideIt (fun e => ask_may (T := T) (k := (kk, kn)) (t := (tc, tq)) e)
          generalize askL T (kk, kn) (tc, tq) = A at *
          obtain ⟨T', bb, er⟩ := A
          dsimp only at HC HE1 HE2 HM
          clear hTab
          go_upto_region 9 with fail
          go_cut [6] from 39 to 54 (fun u wx => u = .int .i64 er ∧ Hid (∃ h' v', PQ w T (.slice ha T.held.length hc) (.slice va T.wait.length vc) P T' h' v' wx))
          case first =>
            go_region_held3 (fun W => W.cell? ⟨w.heap.size + 1, 0, none⟩ = some (.slice ha T.held.length hc) ∧ W.cell? ⟨w.heap.size + 1, 1, none⟩ = some (.slice va T.wait.length vc) ∧ W.cell? ⟨b, off + t * 5, none⟩ = some (.int .i64 kk) ∧ W.cell? ⟨b, off + t * 5 + 1, none⟩ = some (.int .i64 kn) ∧ W.cell? ⟨b, off + t * 5 + 2, none⟩ = some (.int .i64 tc) ∧ W.cell? ⟨b, off + t * 5 + 3, none⟩ = some (.int .i64 tq)) (go_keep) (first | (go_at_call 10; refine HC.out.mono ?_; clear HC; rintro e w5 ⟨h', v', rfl, ho, hb⟩; obtain ⟨ha', hc', rfl⟩ := own_len ho.oh; obtain ⟨va', vc', rfl⟩ := own_len ho.ov; have G := hideIt (PQ.put X1d.out N1.out lP ho hb); have p5 := (hb.block _ (Array.getElem?_eq_some_iff.1 N1.out).1).trans N1.out; obtain ⟨p50, p51, p52, p53, p54⟩ := two_at p5; obtain ⟨j0, j1, j2, j3, j4, j5⟩ := HS.out w5 hb; clear ho hb p5))
            all_goals go_wp2_with fail
            all_goals go_meet
            all_goals exact ⟨rfl, hideIt ⟨_, _, G.out⟩⟩
          case rest =>
          obtain ⟨rfl, h', v', G⟩ := hcut
          obtain ⟨ha', hc', rfl⟩ := own_len G.own.oh
          obtain ⟨va', vc', rfl⟩ := own_len G.own.ov
          obtain ⟨p0, p1, -, -, -⟩ := two_at G.box
          obtain ⟨x0, x1, xf0, xf1, xl⟩ := two_at G.pt.box
          have HG := hideIt G
          clear G HC HS X1 N1 s0 s1 s2 s3 s4
          by_cases he : er = 0
          · subst he
            have Z := hideIt (HG.out.take (HM.out rfl))
            have HF := hideIt (HT.out.trans (HE1.out rfl))
            clear HG HM HE1 HE2
            go_wp2
            go_roundw
            case rel => exact ⟨t + 1, by go_num, by omega, hideIt ⟨_, _, by rw [HF.out]; exact Z.out, by omega⟩⟩
            case measure => simp [intOf]; omega
          · have HF := hideIt (HT.out.trans (HE2.out he))
            have Z := hideIt HG.out.pt
            clear HG HM HE1 HE2
            go_wp2
            go_roundw
            case rel => exact ⟨t + 1, by go_num, by omega, hideIt ⟨_, _, by rw [HF.out]; exact Z.out, by omega⟩⟩
            case measure => simp [intOf]; omega
        · have HC := hideIt (free_is T _ _ kk kn tc tq W1.drew (hTab.keep (Below.refl _ W1).drew))
          unfold FreeBack at HC
          have HE1 : Hid ((freeL T (kk, kn) (tc, tq)).2.2 = 0 → stepL T ((kk, kn), (tc, tq), true) = (freeL T (kk, kn) (tc, tq)).1) := fun e => by
            unfold stepL
            simp [e]
          have HE2 : Hid ((freeL T (kk, kn) (tc, tq)).2.2 ≠ 0 → stepL T ((kk, kn), (tc, tq), true) = T) := fun e => by
            unfold stepL
            simp [e]
          have HM := hideIt (fun e => free_may (T := T) (k := (kk, kn)) (t := (tc, tq)) e)
          generalize freeL T (kk, kn) (tc, tq) = A at *
          obtain ⟨T', bb, er⟩ := A
          dsimp only at HC HE1 HE2 HM
          clear hTab
          go_upto_region 8 with fail
          go_cut [6] from 23 to 38 (fun u wx => u = .int .i64 er ∧ Hid (∃ h' v', PQ w T (.slice ha T.held.length hc) (.slice va T.wait.length vc) P T' h' v' wx))
          case first =>
            go_region_held3 (fun W => W.cell? ⟨w.heap.size + 1, 0, none⟩ = some (.slice ha T.held.length hc) ∧ W.cell? ⟨w.heap.size + 1, 1, none⟩ = some (.slice va T.wait.length vc) ∧ W.cell? ⟨b, off + t * 5, none⟩ = some (.int .i64 kk) ∧ W.cell? ⟨b, off + t * 5 + 1, none⟩ = some (.int .i64 kn) ∧ W.cell? ⟨b, off + t * 5 + 2, none⟩ = some (.int .i64 tc) ∧ W.cell? ⟨b, off + t * 5 + 3, none⟩ = some (.int .i64 tq)) (go_keep) (first | (go_at_call 9; refine HC.out.mono ?_; clear HC; rintro e w5 ⟨h', v', rfl, ho, hb⟩; obtain ⟨ha', hc', rfl⟩ := own_len ho.oh; obtain ⟨va', vc', rfl⟩ := own_len ho.ov; have G := hideIt (PQ.put X1d.out N1.out lP ho hb); have p5 := (hb.block _ (Array.getElem?_eq_some_iff.1 N1.out).1).trans N1.out; obtain ⟨p50, p51, p52, p53, p54⟩ := two_at p5; obtain ⟨j0, j1, j2, j3, j4, j5⟩ := HS.out w5 hb; clear ho hb p5))
            all_goals go_wp2_with fail
            all_goals go_meet
            all_goals exact ⟨rfl, hideIt ⟨_, _, G.out⟩⟩
          case rest =>
          obtain ⟨rfl, h', v', G⟩ := hcut
          obtain ⟨ha', hc', rfl⟩ := own_len G.own.oh
          obtain ⟨va', vc', rfl⟩ := own_len G.own.ov
          obtain ⟨p0, p1, -, -, -⟩ := two_at G.box
          obtain ⟨x0, x1, xf0, xf1, xl⟩ := two_at G.pt.box
          have HG := hideIt G
          clear G HC HS X1 N1 s0 s1 s2 s3 s4
          by_cases he : er = 0
          · subst he
            have Z := hideIt (HG.out.take (HM.out rfl))
            have HF := hideIt (HT.out.trans (HE1.out rfl))
            clear HG HM HE1 HE2
            go_wp2
            go_roundw
            case rel => exact ⟨t + 1, by go_num, by omega, hideIt ⟨_, _, by rw [HF.out]; exact Z.out, by omega⟩⟩
            case measure => simp [intOf]; omega
          · have HF := hideIt (HT.out.trans (HE2.out he))
            have Z := hideIt HG.out.pt
            clear HG HM HE1 HE2
            go_wp2
            go_roundw
            case rel => exact ⟨t + 1, by go_num, by omega, hideIt ⟨_, _, by rw [HF.out]; exact Z.out, by omega⟩⟩
            case measure => simp [intOf]; omega
      · have hltI : (t : Int) < (l.length : Int) := by omega
        have h6I : ¬ (t : Int) < 60 := by omega
        have hE : playL l = (l.take t).foldl stepL zTab := by
          unfold playL
          rw [show t = 60 by omega]
        have HE := hideIt hE
        clear hE
        generalize (l.take t).foldl stepL zTab = T at *
        have RT := hideIt X.ret
        have RC := hideIt (And.intro (two_at RT.out.1).1 (two_at RT.out.1).2.1)
        obtain ⟨x0, x1, -, -, xl⟩ := two_at X.box
        obtain ⟨r0, r1, rf0, rf1, rl⟩ := two_at X.res
        clear HH X
        go_wp2
        exact bodyPost_ret (v := .agg #[.slice ha T.held.length hc, .slice va T.wait.length vc]) (by simp [results, Try.results4, go_sem, RC.out.1, RC.out.2]) rfl ⟨_, _, rfl, by rw [HE.out]; exact RT.out.2.1, RT.out.2.2⟩
    · have hltI : ¬ (t : Int) < (l.length : Int) := by omega
      have hE : playL l = (l.take t).foldl stepL zTab := by
        unfold playL
        rw [List.take_of_length_le (by omega), List.take_of_length_le (by omega)]
      have HE := hideIt hE
      clear hE
      generalize (l.take t).foldl stepL zTab = T at *
      have RT := hideIt X.ret
      have RC := hideIt (And.intro (two_at RT.out.1).1 (two_at RT.out.1).2.1)
      obtain ⟨x0, x1, -, -, xl⟩ := two_at X.box
      obtain ⟨r0, r1, rf0, rf1, rl⟩ := two_at X.res
      clear HH X
      go_wp2
      exact bodyPost_ret (v := .agg #[.slice ha T.held.length hc, .slice va T.wait.length vc]) (by simp [results, Try.results4, go_sem, RC.out.1, RC.out.2]) rfl ⟨_, _, rfl, by rw [HE.out]; exact RT.out.2.1, RT.out.2.2⟩
end Go.Proofs.Ytgfpeknhabbkbab
