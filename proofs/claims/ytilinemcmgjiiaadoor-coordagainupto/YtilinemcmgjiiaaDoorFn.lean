/- Where a message's transaction stands: the walk. -/
import Derived.Test.YtilinemcmgjiiaaDoorMs
import Derived.WalkMore
import Derived.Deep.LoopGhost
namespace Go.Proofs.YtilinemcmgjiiaaDoor
open Go.RowKit
set_option linter.all false
theorem neqTxn (a1 a2 b1 b2 : Int) (w : World) : (binOp .neq 35 (.agg #[.int .i64 a1, .int .i64 a2]) (.agg #[.int .i64 b1, .int .i64 b2])).run Tryd.prog w = .ok (.bool (!(a1 == b1 && a2 == b2))) w := by
  simp [go_sem]
  by_cases h1 : a1 = b1 <;> by_cases h2 : a2 = b2 <;> simp [h1, h2, go_sem]
theorem eqlKey (a1 a2 b1 b2 : Int) (w : World) : (binOp .eql 37 (.agg #[.int .i64 a1, .int .i64 a2]) (.agg #[.int .i64 b1, .int .i64 b2])).run Tryd.prog w = .ok (.bool (a1 == b1 && a2 == b2)) w := by
  simp [go_sem]
  by_cases h1 : a1 = b1 <;> by_cases h2 : a2 = b2 <;> simp [h1, h2, go_sem]
set_option maxHeartbeats 16000000 in
set_option maxRecDepth 100000 in
theorem findC_is (g : Int) (a : Option Addr) (cp : Nat) (l : List TraX) (m : MesX) (w : World) (h : Trs w (.slice a l.length cp) l) : Calls Tryd.prog 24 #[.agg #[.int .i64 g, .slice a l.length cp], .agg (mesE m).toArray] w fun e w' => e = .returned (.tuple #[.int .i64 (fndL m.c m.q m.k m.n m.frm l 0 (-1)).1, .int .i64 (fndL m.c m.q m.k m.n m.frm l 0 (-1)).2]) ∧ Below w.heap.size w w' := by
  have HPS := hideIt (fun (t : Nat) (ht : t < l.length) => (h.at_ l[t] (List.getElem_mem ht)).p)
  obtain ⟨a', c', e, h8, hr⟩ := h.cells
  simp only [Value.slice.injEq, true_and] at e
  obtain ⟨rfl, rfl⟩ := e
  obtain ⟨t1, t2, t3⟩ := two_heap w (.cells #[.int .i64 g, .slice a l.length cp] 25) (.cells (mesE m).toArray 47)
  have T1 := hideIt t1
  have HB := hideIt (below2 w (.cells #[.int .i64 g, .slice a l.length cp] 25) (.cells (mesE m).toArray 47))
  have HH := hideIt hr
  have HST := hideIt (fun t (ht : t < l.length) at0 => fndL_at ht m.c m.q m.k m.n m.frm at0)
  have HE : Hid (∀ at0, fndL m.c m.q m.k m.n m.frm (l.drop l.length) l.length at0 = (at0, -1)) := fun at0 => by rw [List.drop_length]; rfl
  have H0 : Hid (fndL m.c m.q m.k m.n m.frm (l.drop 0) 0 (-1) = fndL m.c m.q m.k m.n m.frm l 0 (-1)) := by show _ = _; rw [List.drop_zero]
  have HMC : Hid (∀ W : World, W.heap[w.heap.size + 1]? = some (.cells (mesE m).toArray 47 (0, 0)) → (W.cell? ⟨w.heap.size + 1, 1, none⟩ = some (.int .i64 m.frm) ∧ W.cell? ⟨w.heap.size + 1, 3, none⟩ = some (.int .i64 m.c) ∧ W.cell? ⟨w.heap.size + 1, 4, none⟩ = some (.int .i64 m.q) ∧ W.cell? ⟨w.heap.size + 1, 5, none⟩ = some (.int .i64 m.k) ∧ W.cell? ⟨w.heap.size + 1, 6, none⟩ = some (.int .i64 m.n)) ∧ w.heap.size + 1 < W.heap.size) := fun W hW => ⟨⟨by rw [cell_at hW]; rfl, by rw [cell_at hW]; rfl, by rw [cell_at hW]; rfl, by rw [cell_at hW]; rfl, by rw [cell_at hW]; rfl⟩, (Array.getElem?_eq_some_iff.1 hW).1⟩
  have T2 := hideIt (fun W (hW : Below ((w.alloc (.cells #[.int .i64 g, .slice a l.length cp] 25)).alloc (.cells (mesE m).toArray 47)).heap.size ((w.alloc (.cells #[.int .i64 g, .slice a l.length cp] 25)).alloc (.cells (mesE m).toArray 47)) W) => HMC.out W (blkK t2 hW))
  obtain ⟨R1, R2, hR⟩ : ∃ R1 R2, fndL m.c m.q m.k m.n m.frm l 0 (-1) = (R1, R2) := ⟨_, _, rfl⟩
  rw [hR] at H0 ⊢
  simp only
  clear t1 t2 t3 h hr hR HMC
  generalize (mesE m).toArray = MA at *
  generalize m.c = c at *
  generalize m.q = q at *
  generalize m.k = kk at *
  generalize m.n = kn at *
  generalize m.frm = mf at *
  go_enter Tryd.func24, Tryd.ntmps24
  go_upto_region 1 with fail
  generalize (w.alloc (.cells #[.int .i64 g, .slice a l.length cp] 25)).alloc (.cells MA 47) = W0 at *
  obtain ⟨⟨c0, c1⟩, cf, cz⟩ := at2 T1.out
  go_wp2
  go_step3
  go_wp2
  go_step3
  go_wp2
  clear c0 c1 cf cz
  go_loopg [4, 5, 13] l.length (fun gg s4 s5 s13 wx => ∃ (t : Nat) (at0 : Int), t + gg = l.length ∧ s4 = .int .i64 at0 ∧ s5 = .int .i64 (-1) ∧ s13 = .int .i64 t ∧ Hid (fndL c q kk kn mf (l.drop t) t at0 = (R1, R2) ∧ Below W0.heap.size W0 wx))
  case atStart => exact ⟨0, -1, by omega, rfl, rfl, rfl, ⟨H0.out, Below.refl _ _⟩⟩
  case round =>
    obtain ⟨t, at0, htg, rfl, rfl, rfl, HR⟩ := hrel
    cases gk with
    | zero =>
      have hltI : ¬ (t : Int) < (l.length : Int) := by omega
      have het : t = l.length := by omega
      subst het
      have hx := HR.out.1
      rw [HE.out] at hx
      simp only [Prod.mk.injEq] at hx
      obtain ⟨rfl, rfl⟩ := hx
      have B2 := hideIt (below_via HB.out HR.out.2)
      clear HR HH HST HE H0 HB T1 T2 HPS
      go_wp2
      go_ret2
      exact ⟨rfl, B2.out⟩
    | succ gg =>
      have hlt : t < l.length := by omega
      have hltI : (t : Int) < (l.length : Int) := by omega
      have ht0 : (0 : Int) ≤ (t : Int) := by omega
      have hw : IntKind.i64.wrap ((t : Int) + 1) = ((t + 1 : Nat) : Int) := by rw [IntKind.wrap_i64]; omega
      obtain ⟨b, off, rfl, hgl, hq⟩ := HH.out t hlt
      have hbw := below_via HB.out HR.out.2
      have hgr : b < wr.heap.size := Nat.lt_of_lt_of_le hgl hbw.size
      have HS := hideIt (HST.out t hlt at0)
      have HPV := hideIt ((HPS.out t hlt).keep hbw)
      have hc : ∀ j v, (traE l[t])[j]? = some v → wr.cell? ⟨b, off + t * 21 + j, none⟩ = some v := fun j v hv => (hbw.cell (p := ⟨b, off + t * 21 + j, none⟩) hgl).trans (hq j v hv)
      clear hq hbw hgl
      generalize l[t] = s at *
      obtain ⟨c1, q1, ⟨rk, ra, rl, rs, rd, rp, rn, ro, ⟨rkk, rkn⟩, rt⟩, ps, pa, pc, st, am, ma, mc, cx, ca, cc, ⟨⟨code, num, aam, fl⟩, aa, ac, fa, fc⟩⟩ := s
      have hrg : wr.rangeAt b (off + t * 21) [.int .i64 c1, .int .i64 q1, .int .i64 rk, .int .i64 ra, .int .i64 rl, .int .i64 rs, .int .i64 rd, .int .i64 rp, .int .i64 rn, .bool ro, .int .i64 rkk, .int .i64 rkn, .int .i64 rt, .slice pa ps.length pc, .int .i64 st, .slice ma am.length mc, .slice ca cx.length cc, .int .i64 code, .int .i64 num, .slice aa aam.length ac, .slice fa fl.length fc] := fun j v hv => hc j v hv
      clear hc
      dsimp only at HS HPV
      have hone : (#[.int .i64 c1, .int .i64 q1, .int .i64 rk, .int .i64 ra, .int .i64 rl, .int .i64 rs, .int .i64 rd, .int .i64 rp, .int .i64 rn, .bool ro, .int .i64 rkk, .int .i64 rkn, .int .i64 rt, .slice pa ps.length pc, .int .i64 st, .slice ma am.length mc, .slice ca cx.length cc, .int .i64 code, .int .i64 num, .slice aa aam.length ac, .slice fa fl.length fc] : Array Value).all (·.oneCell') = true := by simp [Value.oneCell']
      have hb1 := below1 wr (.cells #[.int .i64 c1, .int .i64 q1, .int .i64 rk, .int .i64 ra, .int .i64 rl, .int .i64 rs, .int .i64 rd, .int .i64 rp, .int .i64 rn, .bool ro, .int .i64 rkk, .int .i64 rkn, .int .i64 rt, .slice pa ps.length pc, .int .i64 st, .slice ma am.length mc, .slice ca cx.length cc, .int .i64 code, .int .i64 num, .slice aa aam.length ac, .slice fa fl.length fc] 52)
      have TN := hideIt (heap_alloc_new wr (.cells #[.int .i64 c1, .int .i64 q1, .int .i64 rk, .int .i64 ra, .int .i64 rl, .int .i64 rs, .int .i64 rd, .int .i64 rp, .int .i64 rn, .bool ro, .int .i64 rkk, .int .i64 rkn, .int .i64 rt, .slice pa ps.length pc, .int .i64 st, .slice ma am.length mc, .slice ca cx.length cc, .int .i64 code, .int .i64 num, .slice aa aam.length ac, .slice fa fl.length fc] 52))
      have HRR := hideIt HR.out.1
      have B1 := hideIt (below_via HR.out.2 hb1)
      have HPW := hideIt (HPV.out.keep hb1)
      clear hb1 HR HPV
      go_upto_region 5 with (first | (refine wpList_load_mid rfl _ _ rfl b (off + t * 21) rfl [.int .i64 c1, .int .i64 q1, .int .i64 rk, .int .i64 ra, .int .i64 rl, .int .i64 rs, .int .i64 rd, .int .i64 rp, .int .i64 rn, .bool ro, .int .i64 rkk, .int .i64 rkn, .int .i64 rt, .slice pa ps.length pc, .int .i64 st, .slice ma am.length mc, .slice ca cx.length cc, .int .i64 code, .int .i64 num, .slice aa aam.length ac, .slice fa fl.length fc] _ hrg Tryd.underlying52 rfl (by kernel_rfl) ?_; go_frame) | (refine wpList_store_row rfl _ _ _ rfl wr.heap.size #[.int .i64 c1, .int .i64 q1, .int .i64 rk, .int .i64 ra, .int .i64 rl, .int .i64 rs, .int .i64 rd, .int .i64 rp, .int .i64 rn, .bool ro, .int .i64 rkk, .int .i64 rkn, .int .i64 rt, .slice pa ps.length pc, .int .i64 st, .slice ma am.length mc, .slice ca cx.length cc, .int .i64 code, .int .i64 num, .slice aa aam.length ac, .slice fa fl.length fc] rfl rfl _ _ (heap_alloc_new wr _) (by kernel_rfl) rfl hone ?_; rw [World.setRow_alloc_new]; go_frame))
      clear hrg hone
      generalize hN : wr.heap.size = tb at *
      generalize wr.alloc (.cells #[.int .i64 c1, .int .i64 q1, .int .i64 rk, .int .i64 ra, .int .i64 rl, .int .i64 rs, .int .i64 rd, .int .i64 rp, .int .i64 rn, .bool ro, .int .i64 rkk, .int .i64 rkn, .int .i64 rt, .slice pa ps.length pc, .int .i64 st, .slice ma am.length mc, .slice ca cx.length cc, .int .i64 code, .int .i64 num, .slice aa aam.length ac, .slice fa fl.length fc] 52) = W1 at *
      have ht1 := T2.out _ B1.out
      obtain ⟨⟨mc1, mc3, mc4, mc5, mc6⟩, mz⟩ := ht1
      obtain ⟨⟨g0, g1, g2, g3, g4, g5, g6, g7, g8, g9, g10, g11, g12, g13, g14, g15, g16, g17, g18, g19, g20⟩, cf, cz⟩ := at21 TN.out
      clear g2 g3 g4 g5 g6 g7 g8 g9 g10 g11 g12 g14 g15 g16 g17 g18 g19 g20 cf
      have hqq := fun W => neqTxn c1 q1 c q W
      cases he : (c1 == c && q1 == q)
      · rw [he] at hqq HS
        rw [if_neg (by decide)] at HS
        have HX : Hid (fndL c q kk kn mf (l.drop (t + 1)) (t + 1) at0 = (R1, R2)) := by show _ = _; rw [← HS.out]; exact HRR.out
        clear he HS HRR HPW T2 HST HH HPS
        go_wp2
        go_roundg gg
        case measure => omega
        case rel => exact ⟨t + 1, at0, by omega, rfl, rfl, by go_num, ⟨HX.out, B1.out⟩⟩
      · rw [he] at hqq HS
        rw [if_pos rfl] at HS
        have hps := HPW.out.1
        clear he HST HH HPS
        have HPT := hideIt (fun j (hj : j < ps.length) => pidL_at hj kk kn mf j)
        have HPE : Hid (pidL kk kn mf (ps.drop ps.length) ps.length = none) := by show _ = _; rw [List.drop_length]; rfl
        have HP0 : Hid (pidL kk kn mf (ps.drop 0) 0 = pidL kk kn mf ps 0) := by show _ = _; rw [List.drop_zero]
        generalize pidL kk kn mf ps 0 = P at *
        go_wp2
        clear hqq mc1 mc3 mc4 mc5 mc6 mz g0 g1 g13 cz
        go_loopg [5, 27] ps.length (fun g2 s5 s27 wy => ∃ j : Nat, j + g2 = ps.length ∧ s5 = .int .i64 (-1) ∧ s27 = .int .i64 j ∧ Hid (pidL kk kn mf (ps.drop j) j = P ∧ Below W1.heap.size W1 wy))
        case atStart => exact ⟨0, by omega, rfl, rfl, ⟨HP0.out, Below.refl _ _⟩⟩
        case round =>
          obtain ⟨j, hjg, rfl, rfl, HJ⟩ := hrel
          cases gk with
          | zero =>
            have hjI : ¬ (j : Int) < (ps.length : Int) := by omega
            have hej : j = ps.length := by omega
            have hP : P = none := by rw [← HJ.out.1, hej]; exact HPE.out
            rw [hP] at HS
            have HX : Hid (fndL c q kk kn mf (l.drop (t + 1)) (t + 1) t = (R1, R2)) := by show _ = _; rw [← HRR.out, HS.out]
            have B2 := hideIt (below_via B1.out HJ.out.2)
            clear HS HRR HJ HPT HPE HP0 hP T2 HPW
            go_wp2
            go_roundg gg
            case measure => omega
            case rel => exact ⟨t + 1, t, by omega, rfl, rfl, by go_num, ⟨HX.out, B2.out⟩⟩
          | succ g2 =>
            have hlj : j < ps.length := by omega
            have hjI : (j : Int) < (ps.length : Int) := by omega
            have hj0 : (0 : Int) ≤ (j : Int) := by omega
            have hwj : IntKind.i64.wrap ((j : Int) + 1) = ((j + 1 : Nat) : Int) := by rw [IntKind.wrap_i64]; omega
            have B2 := hideIt (below_via B1.out HJ.out.2)
            obtain ⟨⟨mc1, mc3, mc4, mc5, mc6⟩, mz⟩ := T2.out _ B2.out
            obtain ⟨-, a2, c2, e, hcap, hr⟩ := HPW.out
            simp only [Value.slice.injEq, true_and] at e
            obtain ⟨rfl, rfl⟩ := e
            obtain ⟨pb, po, rfl, hpl, hcc⟩ := hr (by omega)
            have hgr2 : pb < wr.heap.size := Nat.lt_of_lt_of_le hpl HJ.out.2.size
            have pq : ∀ i v, (peeE ps[j])[i]? = some v → wr.cell? ⟨pb, po + j * 5 + i, none⟩ = some v := fun i v hv => by
              have hi : i < 5 := (List.getElem?_eq_some_iff.1 hv).1
              rw [HJ.out.2.cell (p := ⟨pb, po + j * 5 + i, none⟩) hpl, show po + j * 5 + i = po + (j * 5 + i) by omega, hcc (j * 5 + i) (by omega), celC_get peeK ps j hlj i hi]
              exact hv
            have HQ := hideIt (HPT.out j hlj)
            clear hcc hr hcap hpl HPT
            generalize ps[j] = p at *
            obtain ⟨p1, p2, p3, p4, p5⟩ := p
            have p0c : wr.cell? ⟨pb, po + j * 5, none⟩ = some (.int .i64 p1) := pq 0 _ rfl
            have p1c : wr.cell? ⟨pb, po + j * 5 + 1, none⟩ = some (.int .i64 p2) := pq 1 _ rfl
            have p2c : wr.cell? ⟨pb, po + j * 5 + 2, none⟩ = some (.int .i64 p3) := pq 2 _ rfl
            have p3c : wr.cell? ⟨pb, po + j * 5 + 3, none⟩ = some (.bool p4) := pq 3 _ rfl
            have p4c : wr.cell? ⟨pb, po + j * 5 + 4, none⟩ = some (.bool p5) := pq 4 _ rfl
            have hb5 := below1 wr (.cells #[.int .i64 p1, .int .i64 p2, .int .i64 p3, .bool p4, .bool p5] 67)
            have TP := hideIt (heap_alloc_new wr (.cells #[.int .i64 p1, .int .i64 p2, .int .i64 p3, .bool p4, .bool p5] 67))
            have B3 := hideIt (And.intro (below_via HJ.out.2 hb5) (below_via B2.out hb5))
            have HJ1 := hideIt HJ.out.1
            clear pq hb5 HJ B2 mc1 mc3 mc4 mc5 mc6 mz
            unfold isP at HQ
            dsimp only at HQ
            go_upto_region 10 with fail
            clear p0c p1c p2c p3c p4c hgr2
            generalize wr.heap.size = pn at *
            generalize wr.alloc (.cells #[.int .i64 p1, .int .i64 p2, .int .i64 p3, .bool p4, .bool p5] 67) = W2 at *
            obtain ⟨⟨mc1, mc3, mc4, mc5, mc6⟩, mz⟩ := T2.out _ B3.out.2
            obtain ⟨⟨e0, e1, e2, e3, e4⟩, ef, ez⟩ := at5 TP.out
            have hkq := fun W => eqlKey p1 p2 kk kn W
            clear e3 e4 ef mc3 mc4
            cases hk1 : (p1 == kk && p2 == kn)
            · rw [hk1] at HQ hkq
              have HN : Hid (pidL kk kn mf (ps.drop (j + 1)) (j + 1) = P) := by show _ = _; rw [← HJ1.out, HQ.out]; rfl
              clear hk1 HQ HJ1 T2 HPW
              go_wp2
              go_roundg g2
              case measure => omega
              case rel => exact ⟨j + 1, by omega, rfl, by go_num, ⟨HN.out, B3.out.1⟩⟩
            · rw [hk1] at HQ hkq
              cases hk2 : (p3 == mf)
              · have HN : Hid (pidL kk kn mf (ps.drop (j + 1)) (j + 1) = P) := by show _ = _; rw [← HJ1.out, HQ.out, hk2]; rfl
                clear hk1 HQ HJ1 T2 HPW
                go_wp2
                go_roundg g2
                case measure => omega
                case rel => exact ⟨j + 1, by omega, rfl, by go_num, ⟨HN.out, B3.out.1⟩⟩
              · have hP : P = some j := by rw [← HJ1.out, HQ.out, hk2]; rfl
                rw [hP] at HS
                have hx := HRR.out
                rw [HS.out] at hx
                simp only [Prod.mk.injEq] at hx
                obtain ⟨rfl, rfl⟩ := hx
                have B4 := hideIt (below_via HB.out B3.out.2)
                clear hk1 HQ HJ1 T2 HPW HS HRR hP HB B3 B1
                go_wp2
                try rw [Exit.noGoto_ret]
                go_ret2
                exact ⟨rfl, B4.out⟩
end Go.Proofs.YtilinemcmgjiiaaDoor
