/- fresh.List at transactions: the walk. -/
import Derived.Test.YtilinemcmgjiiaaDoorTl
import Derived.Deep.WholeRow
namespace Go.Proofs.YtilinemcmgjiiaaDoor
open Go.RowKit
set_option linter.all false
set_option maxHeartbeats 16000000 in
set_option maxRecDepth 100000 in
theorem transes_is (v : Value) (l : List TraX) (w : World) (h : Trs w v l) : Calls Tryd.prog 39 #[v, .func (.func 40) #[] #[]] w (TraLBack (l.map TraX.v) w) := by
  have HA := hideIt (fun (t : Nat) (ht : t < l.length) W (hW : Below w.heap.size w W) => trans_is l[t] W ((h.at_ l[t] (List.getElem_mem ht)).keep hW))
  obtain ⟨a, c, rfl, h8, hr⟩ := h.cells
  have HH := hideIt hr
  clear hr h
  go_enter Tryd.func39, Tryd.ntmps39
  go_wp2
  go_loopw [5, 10] (fun u x wr => ∃ t : Nat, x = .int .i64 t ∧ t ≤ l.length ∧ ∃ ys : List TraX, Hid (ys.map TraX.v = (l.take t).map TraX.v ∧ TrsOwn w.heap.size wr u ys ∧ Below w.heap.size w wr)) (fun _ x _ => l.length - (intOf x).toNat)
  case atStart => exact ⟨0, rfl, Nat.zero_le _, [], hideIt ⟨rfl, TrsOwn.nil _ _, Below.refl _ _⟩⟩
  case round =>
    obtain ⟨t, rfl, ht, ys, HR⟩ := hrel
    by_cases hlt : t < l.length
    · have hltI : (t : Int) < (l.length : Int) := by omega
      have ht0 : (0 : Int) ≤ (t : Int) := by omega
      have hyl : ys.length = t := by
        have := congrArg List.length HR.out.1
        simp at this
        omega
      obtain ⟨b, off, rfl, hbl, hq⟩ := HH.out t hlt
      have hB := HR.out.2.2
      have HT : Hid ((l.take (t + 1)).map TraX.v = (l.take t).map TraX.v ++ [l[t].v]) := by
        show _ = _
        rw [List.take_succ_eq_append_getElem hlt, List.map_append]
        rfl
      have HC := hideIt (HA.out t hlt)
      have hblr : b < wr.heap.size := Nat.lt_of_lt_of_le hbl hB.size
      have hc : ∀ j v, (traE l[t])[j]? = some v → wr.cell? ⟨b, off + t * 21 + j, none⟩ = some v := fun j v hv => (hB.cell (p := ⟨b, off + t * 21 + j, none⟩) hbl).trans (hq j v hv)
      clear hq HH HA hB hbl
      generalize l[t] = s at *
      obtain ⟨c, q, ⟨rk, ra, rl, rs, rd, rp, rn, ro, ⟨rkk, rkn⟩, rt⟩, ps, pa, pc, st, am, ma, mc, cx, ca, cc, ⟨⟨code, num, aam, fl⟩, aa, ac, fa, fc⟩⟩ := s
      have hrg : wr.rangeAt b (off + t * 21) [.int .i64 c, .int .i64 q, .int .i64 rk, .int .i64 ra, .int .i64 rl, .int .i64 rs, .int .i64 rd, .int .i64 rp, .int .i64 rn, .bool ro, .int .i64 rkk, .int .i64 rkn, .int .i64 rt, .slice pa ps.length pc, .int .i64 st, .slice ma am.length mc, .slice ca cx.length cc, .int .i64 code, .int .i64 num, .slice aa aam.length ac, .slice fa fl.length fc] := fun j v hv => hc j v hv
      clear hc
      simp only [traE, reqC, AnsX.am, AnsX.fl, List.cons_append, List.nil_append] at HC
      have hrg2 : (wr.alloc (.cells #[.int .i64 c, .int .i64 q, .int .i64 rk, .int .i64 ra, .int .i64 rl, .int .i64 rs, .int .i64 rd, .int .i64 rp, .int .i64 rn, .bool ro, .int .i64 rkk, .int .i64 rkn, .int .i64 rt, .slice pa ps.length pc, .int .i64 st, .slice ma am.length mc, .slice ca cx.length cc, .int .i64 code, .int .i64 num, .slice aa aam.length ac, .slice fa fl.length fc] 52)).rangeAt wr.heap.size 0 [.int .i64 c, .int .i64 q, .int .i64 rk, .int .i64 ra, .int .i64 rl, .int .i64 rs, .int .i64 rd, .int .i64 rp, .int .i64 rn, .bool ro, .int .i64 rkk, .int .i64 rkn, .int .i64 rt, .slice pa ps.length pc, .int .i64 st, .slice ma am.length mc, .slice ca cx.length cc, .int .i64 code, .int .i64 num, .slice aa aam.length ac, .slice fa fl.length fc] := fun j v hv => by
        rw [Nat.zero_add, cell_at (heap_alloc_new wr _), List.getElem?_toArray]
        exact hv
      have hone : (#[.int .i64 c, .int .i64 q, .int .i64 rk, .int .i64 ra, .int .i64 rl, .int .i64 rs, .int .i64 rd, .int .i64 rp, .int .i64 rn, .bool ro, .int .i64 rkk, .int .i64 rkn, .int .i64 rt, .slice pa ps.length pc, .int .i64 st, .slice ma am.length mc, .slice ca cx.length cc, .int .i64 code, .int .i64 num, .slice aa aam.length ac, .slice fa fl.length fc] : Array Value).all (·.oneCell') = true := by simp [Value.oneCell']
      have hb1 := below1 wr (.cells #[.int .i64 c, .int .i64 q, .int .i64 rk, .int .i64 ra, .int .i64 rl, .int .i64 rs, .int .i64 rd, .int .i64 rp, .int .i64 rn, .bool ro, .int .i64 rkk, .int .i64 rkn, .int .i64 rt, .slice pa ps.length pc, .int .i64 st, .slice ma am.length mc, .slice ca cx.length cc, .int .i64 code, .int .i64 num, .slice aa aam.length ac, .slice fa fl.length fc] 52)
      have HB1 := hideIt (And.intro hb1 (below_via HR.out.2.2 hb1))
      clear hb1
      have HC2 : Hid (∀ W, Below w.heap.size w W → Calls Tryd.prog 40 #[.agg #[.int .i64 c, .int .i64 q, .int .i64 rk, .int .i64 ra, .int .i64 rl, .int .i64 rs, .int .i64 rd, .int .i64 rp, .int .i64 rn, .bool ro, .int .i64 rkk, .int .i64 rkn, .int .i64 rt, .slice pa ps.length pc, .int .i64 st, .slice ma am.length mc, .slice ca cx.length cc, .int .i64 code, .int .i64 num, .slice aa aam.length ac, .slice fa fl.length fc]] W fun e w' => ∃ a1 d1 a2 d2 zs a3 d3 a4 d4 a5 d5, e = .returned (.agg #[.int .i64 c, .int .i64 q, .int .i64 rk, .int .i64 ra, .int .i64 rl, .int .i64 rs, .int .i64 rd, .int .i64 rp, .int .i64 rn, .bool ro, .int .i64 rkk, .int .i64 rkn, .int .i64 rt, .slice a1 ps.length d1, .int .i64 st, .slice a2 am.length d2, .slice a3 cx.length d3, .int .i64 code, .int .i64 num, .slice a4 aam.length d4, .slice a5 fl.length d5]) ∧ Hid (zs.map CelX.v = cx.map CelX.v ∧ zs.length = cx.length ∧ TraOwn W.heap.size w' ⟨c, q, ⟨rk, ra, rl, rs, rd, rp, rn, ro, ⟨rkk, rkn⟩, rt⟩, ps, a1, d1, st, am, a2, d2, zs, a3, d3, ⟨⟨code, num, aam, fl⟩, a4, d4, a5, d5⟩⟩ ∧ Below W.heap.size W w')) := by
        intro W hW
        refine (HC.out W hW).mono ?_
        rintro e w' ⟨⟨yc, yq, yr, yps, b1, d1, yst, yam, b2, d2, zs, b3, d3, ⟨yv, b4, d4, b5, d5⟩⟩, rfl, hv, ho, hb⟩
        simp only [TraX.v, TraV.mk.injEq] at hv
        obtain ⟨rfl, rfl, rfl, rfl, rfl, rfl, hz, rfl⟩ := hv
        have hl : zs.length = cx.length := by have := congrArg List.length hz; simpa using this
        refine ⟨b1, d1, b2, d2, zs, b3, d3, b4, d4, b5, d5, ?_, hz, hl, ho, hb⟩
        simp only [traE, reqC, AnsX.am, AnsX.fl, List.cons_append, List.nil_append, hl]
      clear HC
      go_wp2_with (first | (refine wpList_load_mid rfl _ _ rfl b (off + t * 21) rfl [.int .i64 c, .int .i64 q, .int .i64 rk, .int .i64 ra, .int .i64 rl, .int .i64 rs, .int .i64 rd, .int .i64 rp, .int .i64 rn, .bool ro, .int .i64 rkk, .int .i64 rkn, .int .i64 rt, .slice pa ps.length pc, .int .i64 st, .slice ma am.length mc, .slice ca cx.length cc, .int .i64 code, .int .i64 num, .slice aa aam.length ac, .slice fa fl.length fc] _ hrg Tryd.underlying52 rfl (by kernel_rfl) ?_; go_frame) | (refine wpList_store_row rfl _ _ _ rfl wr.heap.size #[.int .i64 c, .int .i64 q, .int .i64 rk, .int .i64 ra, .int .i64 rl, .int .i64 rs, .int .i64 rd, .int .i64 rp, .int .i64 rn, .bool ro, .int .i64 rkk, .int .i64 rkn, .int .i64 rt, .slice pa ps.length pc, .int .i64 st, .slice ma am.length mc, .slice ca cx.length cc, .int .i64 code, .int .i64 num, .slice aa aam.length ac, .slice fa fl.length fc] rfl rfl _ _ (heap_alloc_new wr _) (by kernel_rfl) rfl hone ?_; rw [World.setRow_alloc_new]; go_frame) | (refine wpList_load_mid rfl _ _ rfl wr.heap.size 0 rfl [.int .i64 c, .int .i64 q, .int .i64 rk, .int .i64 ra, .int .i64 rl, .int .i64 rs, .int .i64 rd, .int .i64 rp, .int .i64 rn, .bool ro, .int .i64 rkk, .int .i64 rkn, .int .i64 rt, .slice pa ps.length pc, .int .i64 st, .slice ma am.length mc, .slice ca cx.length cc, .int .i64 code, .int .i64 num, .slice aa aam.length ac, .slice fa fl.length fc] _ hrg2 Tryd.underlying52 rfl (by kernel_rfl) ?_; go_frame))
      refine (HC2.out _ HB1.out.2).mono ?_
      rintro e w1 ⟨a1, d1, a2, d2, zs, a3, d3, a4, d4, a5, d5, rfl, ho⟩
      dsimp only
      have hb2 := below_via HB1.out.2 ho.out.2.2.2
      have k2 := below_via HB1.out.1 ho.out.2.2.2
      have hs2 := hb2.size
      have hb3 := below1 w1 (.cells #[.int .i64 c, .int .i64 q, .int .i64 rk, .int .i64 ra, .int .i64 rl, .int .i64 rs, .int .i64 rd, .int .i64 rp, .int .i64 rn, .bool ro, .int .i64 rkk, .int .i64 rkn, .int .i64 rt, .slice a1 ps.length d1, .int .i64 st, .slice a2 am.length d2, .slice a3 cx.length d3, .int .i64 code, .int .i64 num, .slice a4 aam.length d4, .slice a5 fl.length d5] 52)
      have hw2 : w.heap.size ≤ (wr.alloc (.cells #[.int .i64 c, .int .i64 q, .int .i64 rk, .int .i64 ra, .int .i64 rl, .int .i64 rs, .int .i64 rd, .int .i64 rp, .int .i64 rn, .bool ro, .int .i64 rkk, .int .i64 rkn, .int .i64 rt, .slice pa ps.length pc, .int .i64 st, .slice ma am.length mc, .slice ca cx.length cc, .int .i64 code, .int .i64 num, .slice aa aam.length ac, .slice fa fl.length fc] 52)).heap.size := HB1.out.2.size
      have hO := (HR.out.2.1.keep k2).keep hb3
      have hY := (ho.out.2.2.1.base hw2).keep hb3
      have hdj : ∀ s ∈ ys, djT s ⟨c, q, ⟨rk, ra, rl, rs, rd, rp, rn, ro, ⟨rkk, rkn⟩, rt⟩, ps, a1, d1, st, am, a2, d2, zs, a3, d3, ⟨⟨code, num, aam, fl⟩, a4, d4, a5, d5⟩⟩ := fun s hs => fresh_dj (HR.out.2.1.own s hs) ho.out.2.2.1 HB1.out.1.size
      obtain ⟨v', w', hrun, how, hgr⟩ := app1 (enc := traE) (t := 23) traK tra1 Tryd.underlying23 infoTra rfl (by omega) (w1.alloc (.cells #[.int .i64 c, .int .i64 q, .int .i64 rk, .int .i64 ra, .int .i64 rl, .int .i64 rs, .int .i64 rd, .int .i64 rp, .int .i64 rn, .bool ro, .int .i64 rkk, .int .i64 rkn, .int .i64 rt, .slice a1 ps.length d1, .int .i64 st, .slice a2 am.length d2, .slice a3 cx.length d3, .int .i64 code, .int .i64 num, .slice a4 aam.length d4, .slice a5 fl.length d5] 52)) w.heap.size u5 ys ⟨c, q, ⟨rk, ra, rl, rs, rd, rp, rn, ro, ⟨rkk, rkn⟩, rt⟩, ps, a1, d1, st, am, a2, d2, zs, a3, d3, ⟨⟨code, num, aam, fl⟩, a4, d4, a5, d5⟩⟩ w1.heap.size 1 (Nat.le_trans hs2 hb3.size) hO.row (by
        rw [heap_alloc_new w1 _]
        simp only [traE, reqC, AnsX.am, AnsX.fl, List.cons_append, List.nil_append, ho.out.2.1]) (by omega) (by unfold maxLen; omega)
      have hN := hO.app hY hdj how hgr (by omega)
      have HN : Hid ((ys ++ [(⟨c, q, ⟨rk, ra, rl, rs, rd, rp, rn, ro, ⟨rkk, rkn⟩, rt⟩, ps, a1, d1, st, am, a2, d2, zs, a3, d3, ⟨⟨code, num, aam, fl⟩, a4, d4, a5, d5⟩⟩ : TraX)]).map TraX.v = (l.take (t + 1)).map TraX.v ∧ TrsOwn w.heap.size w' v' (ys ++ [(⟨c, q, ⟨rk, ra, rl, rs, rd, rp, rn, ro, ⟨rkk, rkn⟩, rt⟩, ps, a1, d1, st, am, a2, d2, zs, a3, d3, ⟨⟨code, num, aam, fl⟩, a4, d4, a5, d5⟩⟩ : TraX)]) ∧ Below w.heap.size w w') := ⟨by
        rw [List.map_append, HR.out.1, HT.out]
        congr 1
        simp only [List.map_cons, List.map_nil, TraX.v, ho.out.1], hN, grown_own hgr hO.row (Nat.le_refl _) (below_via hb2 hb3)⟩
      have HRUN := hideIt hrun
      clear hrun how hgr hN hO hY hdj hw2 hb3 k2 hs2 hb2 ho HC2 HB1 HT HR hrg hrg2 hone
      generalize ps.length = n1 at *
      generalize am.length = n2 at *
      generalize cx.length = n3 at *
      generalize aam.length = n4 at *
      generalize fl.length = n5 at *
      go_wp2_with (at_builtin; refine Lib.wpList_append_run _ rfl _ _ _ _ rfl _ _ rfl rfl _ _ HRUN.out ?_)
      clear HRUN
      go_wp2
      go_roundw
      case rel => exact ⟨t + 1, by go_num, by omega, _, HN⟩
      case measure => simp [intOf]; omega
    · have hltI : ¬ (t : Int) < (l.length : Int) := by omega
      have hE : l.take t = l := List.take_of_length_le (by omega)
      have HG := hideIt HR.out
      rw [hE] at HG
      obtain ⟨va, vc, hv⟩ := own_len HG.out.2.1.row
      have hyl : ys.length = (l.map TraX.v).length := by rw [← HG.out.1, List.length_map]
      clear HR HH hE HA
      rw [hv] at HG ⊢
      rw [hyl] at HG ⊢
      clear hv hyl
      go_wp2
      go_ret
      exact ⟨va, vc, ys, by simp, HG.out.1, HG.out.2.1, HG.out.2.2⟩
end Go.Proofs.YtilinemcmgjiiaaDoor
