/- Texts of my own, laid together. -/
import Derived.Test.YtiinigifjdpicaaGreatDoorMb10
import Derived.Test.YtiinigifjdpicaaGreatDoorMb09
import Derived.Maps.RangeWalk
import Derived.Test.YtiinigifjdpicaaGreatDoorMb00
import Derived.Test.YtiinigifjdpicaaGreatDoorMb08
namespace Go.Proofs.YtiinigifjdpicaaGreatDoor
open Go.RowKit Go.Maps
set_option linter.all false
def lenOf : Value → Nat
 | .slice _ n _ => n
 | _ => 0
theorem sep_rows {w1 w2 : World} {B1 n m : Nat} {e : TypeId} {z : Nat} {b a : Value} {xs ys : List Value} (hb : w1.ownsRow B1 e z b n xs) (ha : w2.ownsRow w1.heap.size e z a m ys) : b.ownBlock = none ∨ b.ownBlock ≠ a.ownBlock := by
 cases hk : b.ownBlock with
 | none => exact .inl rfl
 | some k =>
  refine .inr (fun e => ?_);have h1 := (hb.lt k hk).2;have h2 := (ha.lt k e.symm).1;omega
theorem TX.head8 {w W : World} {mb c gB gA nB nA cB cA : Nat} {f : Cls} {x y : OrdV} {bs ys : List OrdV} {F : List FillV} {u : Value} (h : TX w mb c f (x :: bs) (y :: ys) F (.slice (some ⟨gB, 0, none⟩) nB cB) (.slice (some ⟨gA, 0, none⟩) nA cA) u W) : W.cell? ⟨gB, 0, none⟩ = some (.int .i64 x.id) ∧ W.cell? ⟨gB, 1, none⟩ = some (.int .i64 x.acc) ∧ W.cell? ⟨gB, 2, none⟩ = some (.int .i64 x.price) ∧ W.cell? ⟨gB, 3, none⟩ = some (.int .i64 x.left) ∧ W.cell? ⟨gA, 0, none⟩ = some (.int .i64 y.id) ∧ W.cell? ⟨gA, 1, none⟩ = some (.int .i64 y.acc) ∧ W.cell? ⟨gA, 2, none⟩ = some (.int .i64 y.price) ∧ W.cell? ⟨gA, 3, none⟩ = some (.int .i64 y.left) := by
 obtain ⟨g1, c1, e1, l1, k1⟩ := own_cells3 h.rb (by simp);obtain ⟨g2, c2, e2, l2, k2⟩ := own_cells3 h.ra (by simp);simp only [Value.slice.injEq, Option.some.injEq, Addr.mk.injEq] at e1 e2;obtain ⟨⟨rfl, -⟩, -⟩ := e1;obtain ⟨⟨rfl, -⟩, -⟩ := e2
 exact ⟨k1 0 _ rfl, k1 1 _ rfl, k1 2 _ rfl, k1 3 _ rfl, k2 0 _ rfl, k2 1 _ rfl, k2 2 _ rfl, k2 3 _ rfl⟩
set_option maxHeartbeats 16000000 in
set_option maxRecDepth 100000 in
theorem trade_is (L : LaneV) (b a o : Value) (V p : Int) (mb c KO KP : Nat) (f : Cls) (w : World) (h : Lan w L b a o) (hM : CM w mb c f) (hc : c ≤ 100) (hKO : w.heap[KO]? = some (.cells #[.map (some mb)] 183 (0, 0))) (hKP : w.heap[KP]? = some (.cells #[.int .i64 p] 3 (0, 0))) (hp : 0 ≤ p ∧ p ≤ 1000000) (hlb : L.bids.length ≤ 40) (hla : L.asks.length ≤ 40) (hI : IV p L.bids L.asks V f []) : Calls Tryz.prog 121 #[laneV L b a o, .int .i64 V, .func (Fn.func 122) #[] #[.pointer (some ⟨KO, 0, none⟩), .pointer (some ⟨KP, 0, none⟩)]] w fun e w' => ∃ bv av uv c2, e = .returned (.tuple #[bv, av, uv]) ∧ TX w mb c2 (trdC p 80 L.bids L.asks V f []).2.2.1 (trdC p 80 L.bids L.asks V f []).1 (trdC p 80 L.bids L.asks V f []).2.1 (trdC p 80 L.bids L.asks V f []).2.2.2 bv av uv w' := by
 have X0 := hideIt (BoxL.first w L b a o);have HCB := hideIt (fun W (hW : Below w.heap.size w W) => cloneO_is b L.bids W (h.keep hW).bids);have HCA := hideIt (fun W (hW : Below w.heap.size w W) => cloneO_is a L.asks W (h.keep hW).asks);obtain ⟨ba, bc, rfl⟩ := h.bids.slice;obtain ⟨aa, ac, rfl⟩ := h.asks.slice;obtain ⟨oa, oc, rfl⟩ := h.owed.slice;clear h;have HK := hideIt (And.intro hKO hKP);have HI := hideIt hI;have HM := hideIt hM;have lKO := (Array.getElem?_eq_some_iff.1 hKO).1;have lKP := (Array.getElem?_eq_some_iff.1 hKP).1;have nO : KO ≠ mb := by
  rintro rfl;obtain ⟨n', D, -, ⟨es, clock, hb, -⟩, -⟩ := hM;rw [hb] at hKO;cases hKO
 have nP : KP ≠ mb := by
  rintro rfl;obtain ⟨n', D, -, ⟨es, clock, hb, -⟩, -⟩ := hM;rw [hb] at hKP;cases hKP
 clear hKO hKP hI hM;obtain ⟨R, hR⟩ : ∃ R, R = trdC p 80 L.bids L.asks V f [] := ⟨_, rfl⟩;rw [← hR];have HR := hideIt hR;clear hR;unfold laneV laneA at *;obtain ⟨cl, nx, bids, asks, owed⟩ := L;simp only at *;obtain ⟨x0, x1, x2, x3, x4⟩ := X0.out.cells;simp only at x0 x1 x2 x3 x4
 go_enter Tryz.func121, Tryz.ntmps121
 go_upto_region 1 with fail
 generalize w.alloc (.cells #[.bool cl, .int .i64 nx, .slice ba bids.length bc, .slice aa asks.length ac, .slice oa owed.length oc] 59) = W0 at *;have xz : w.heap.size < W0.heap.size := by have := X0.out.size; omega
 have HB2 : Hid (∀ W, Below W0.heap.size W0 W → Calls Tryz.prog 72 #[.slice ba bids.length bc] W fun e w' => ∃ q k, e = .returned (.slice q bids.length k) ∧ Hid (w'.ownsRow W.heap.size 115 4 (.slice q bids.length k) bids.length (celC ordE bids) ∧ Below W.heap.size W w') ∧ Hid (Below W0.heap.size W0 w') ∧ (w'.cell? ⟨w.heap.size, 2, none⟩ = some (.slice ba bids.length bc) ∧ w'.cell? ⟨w.heap.size, 3, none⟩ = some (.slice aa asks.length ac)) ∧ w.heap.size < w'.heap.size) := by
  intro W hW;have hX := X0.out.keep hW;refine (HCB.out W hX.bel).mono ?_;rintro e w' ⟨v', rfl, ho, hb⟩;obtain ⟨q, k, rfl⟩ := own_len ho;have hX' := hX.keep hb;obtain ⟨-, -, y2, y3, -⟩ := hX'.cells
  exact ⟨q, k, rfl, ⟨ho, hb⟩, below_via hW hb, ⟨y2, y3⟩, by have := hX'.size; omega⟩
 have HA2 : Hid (∀ W, Below W0.heap.size W0 W → Calls Tryz.prog 72 #[.slice aa asks.length ac] W fun e w' => ∃ q k, e = .returned (.slice q asks.length k) ∧ Hid (w'.ownsRow W.heap.size 115 4 (.slice q asks.length k) asks.length (celC ordE asks) ∧ Below W.heap.size W w') ∧ Hid (Below W0.heap.size W0 w') ∧ (w'.cell? ⟨w.heap.size, 2, none⟩ = some (.slice ba bids.length bc) ∧ w'.cell? ⟨w.heap.size, 3, none⟩ = some (.slice aa asks.length ac)) ∧ w.heap.size < w'.heap.size) := by
  intro W hW;have hX := X0.out.keep hW;refine (HCA.out W hX.bel).mono ?_;rintro e w' ⟨v', rfl, ho, hb⟩;obtain ⟨q, k, rfl⟩ := own_len ho;have hX' := hX.keep hb;obtain ⟨-, -, y2, y3, -⟩ := hX'.cells
  exact ⟨q, k, rfl, ⟨ho, hb⟩, below_via hW hb, ⟨y2, y3⟩, by have := hX'.size; omega⟩
 clear HCB HCA x0 x1 x4
 go_cut [6, 7] from 10 to 15 (fun x y wx => ∃ ba bc aa ac, x = .slice ba bids.length bc ∧ y = .slice aa asks.length ac ∧ Hid (TX w mb c f bids asks [] (.slice ba bids.length bc) (.slice aa asks.length ac) (.slice none 0 0) wx))
 case first =>
  go_region_held3 (fun W => W.cell? ⟨w.heap.size, 2, none⟩ = some (.slice ba bids.length bc) ∧ W.cell? ⟨w.heap.size, 3, none⟩ = some (.slice aa asks.length ac)) (go_keep) (first | (go_at_call 72; refine (HB2.out _ (by first | exact Below.refl _ _ | exact (Below.refl _ _).drew | exact HWA.out)).mono ?_; rintro e wB ⟨qB, mB, rfl, HQB, HWB, ⟨i2B, i3B⟩, izB⟩; clear HB2) | (go_at_call 72; refine (HA2.out _ (by first | exact Below.refl _ _ | exact (Below.refl _ _).drew | exact HWB.out)).mono ?_; rintro e wA ⟨qA, mA, rfl, HQA, HWA, ⟨i2A, i3A⟩, izA⟩; clear HA2))
  all_goals go_wp2_with fail
  all_goals go_meet
  ·exact ⟨qB, mB, qA, mA, rfl, rfl, hideIt ⟨own_base (own_keep HQB.out.1 HQA.out.2) (by have := X0.out.bel.size; exact this), own_base HQA.out.1 (by have := HWB.out.size; have := X0.out.bel.size; omega), own_nil _ _, sep_rows HQB.out.1 HQA.out.1, (HM.out.keep (below_via X0.out.bel HWA.out)), Out.ofBelow (below_via X0.out.bel HWA.out), HM.out.lt⟩⟩
 case rest =>
 obtain ⟨ba2, bc2, aa2, ac2, rfl, rfl, T0⟩ := hcut;clear HB2 HA2 HM X0 x2 x3 xz
 go_upto_region 2 with fail
 go_loopw [1, 6, 7, 8] (fun x1 x6 x7 x8 wr => ∃ (k : Nat) (V : Int) (B A : List OrdV) (F : List FillV) (f : Cls), ∃ ba bc aa ac ua uc, x1 = .int .i64 V ∧ x6 = .slice ba B.length bc ∧ x7 = .slice aa A.length ac ∧ x8 = .slice ua F.length uc ∧ B.length + A.length ≤ k ∧ k + F.length ≤ 80 ∧ Hid (trdC p k B A V f F = R ∧ IV p B A V f F) ∧ Hid (TX w mb (c + 3 * F.length) f B A F (.slice ba B.length bc) (.slice aa A.length ac) (.slice ua F.length uc) wr)) (fun _ x6 x7 _ _ => lenOf x6 + lenOf x7)
 case atStart => exact ⟨80, V, bids, asks, [], f, ba2, bc2, aa2, ac2, none, 0, rfl, rfl, rfl, rfl, by omega, by simp, hideIt ⟨HR.out.symm, HI.out⟩, T0⟩
 case round =>
  clear T0 HR HI;obtain ⟨k, V, B, A, F, f, ba, bc, aa, ac, ua, uc, rfl, rfl, rfl, rfl, hk, hkF, HV, HT⟩ := hrel
  by_cases hV : 0 < V
  ·obtain ⟨x, bs, y, ys, rfl, rfl, hpx, hpy⟩ := HV.out.2.heads hV;obtain ⟨hn, hIV⟩ := HV.out.2.step hp hpx hpy;have hT1 := HV.out.2.tb x (List.mem_cons_self ..);have hT2 := HV.out.2.ta y (List.mem_cons_self ..);have hC1 := HV.out.2.cb x (List.mem_cons_self ..);have hC2 := HV.out.2.ca y (List.mem_cons_self ..);have hcg := HV.out.2.cgb;have hVb : V ≤ 80000000 := by
    have h1 := (dem_bd p _ HV.out.2.tb).2;have h2 := HV.out.2.vol;have h3 : ((x :: bs).length : Int) ≤ 80 := by omega
    omega
   obtain ⟨k2, rfl⟩ : ∃ k2, k = k2 + 1 := ⟨k - 1, by simp at hk; omega⟩
   have hRR := HV.out.1;unfold trdC at hRR;rw [if_pos hV] at hRR;have hln := takO_len x y bs ys;have HNX := hideIt (And.intro hRR hIV);have HLN := hideIt hln;clear hRR hIV hln HV;obtain ⟨gB, cB, eB, lB, cellB⟩ := own_cells3 HT.out.rb (by simp);obtain ⟨gA, cA, eA, lA, cellA⟩ := own_cells3 HT.out.ra (by simp);simp only [Value.slice.injEq] at eB eA;obtain ⟨rfl, -, rfl⟩ := eB;obtain ⟨rfl, -, rfl⟩ := eA;have p0 := cellB 0 (.int .i64 x.id) rfl;have p1 := cellB 1 (.int .i64 x.acc) rfl;have p2 := cellB 2 (.int .i64 x.price) rfl;have p3 := cellB 3 (.int .i64 x.left) rfl;have q0 := cellA 0 (.int .i64 y.id) rfl;have q1 := cellA 1 (.int .i64 y.acc) rfl;have q2 := cellA 2 (.int .i64 y.price) rfl;have q3 := cellA 3 (.int .i64 y.left) rfl;clear cellB cellA;have hnB : 0 < (x :: bs).length := by simp
   have hnA : 0 < (y :: ys).length := by simp
   have HTB := hideIt (fun n W b (ho : W.ownsRow w.heap.size 115 4 b (x :: bs).length (celC ordE (x :: bs))) hh => taken_is w.heap.size b x bs n W ho hh);have HTA := hideIt (fun n W b (ho : W.ownsRow w.heap.size 115 4 b (y :: ys).length (celC ordE (y :: ys))) hh => taken_is w.heap.size b y ys n W ho hh);have HLB : Hid ((x :: bs).length = bs.length + 1) := rfl;have HLA : Hid ((y :: ys).length = ys.length + 1) := rfl;generalize hnb : (x :: bs).length = nb at *;generalize hna : (y :: ys).length = na at *;have HNB := hideIt hnb;have HNA := hideIt hna;clear hnb hna;have iB : (0 : Int) < (nb : Int) := by omega
   have iA : (0 : Int) < (na : Int) := by omega
   obtain ⟨n, hnn⟩ : ∃ n, n = min x.left y.left := ⟨_, rfl⟩;have HN2 : Hid (trdC p k2 (takO n (x :: bs)) (takO n (y :: ys)) (V - n) (stlC f x.acc x.price y.acc p n) (F ++ [⟨x.acc, y.acc, p, n⟩]) = R ∧ IV p (takO n (x :: bs)) (takO n (y :: ys)) (V - n) (stlC f x.acc x.price y.acc p n) (F ++ [⟨x.acc, y.acc, p, n⟩])) := by rw [hnn]; exact HNX.out
   clear HNX;rw [← hnn] at HLN hn;have HNN := hideIt hnn;clear hnn
   go_upto_region 3 with fail
   go_cut [9] from 18 to 26 (fun v wx => v = .int .i64 (min x.left y.left) ∧ wr.drew = wx)
   case first =>
    clear HT HN2 HLN HTB HTA
    go_region
    all_goals go_wp2_with fail
    all_goals go_meet
    all_goals exact ⟨rfl, rfl⟩
   case rest =>
   obtain ⟨rfl, rfl⟩ := hcut;rw [← HNN.out];have HT2 := hideIt (HT.out.keep (Below.refl _ wr).drew);have p0' : wr.drew.cell? ⟨gB, 0, none⟩ = some (.int .i64 x.id) := p0;have p1' : wr.drew.cell? ⟨gB, 1, none⟩ = some (.int .i64 x.acc) := p1;have p2' : wr.drew.cell? ⟨gB, 2, none⟩ = some (.int .i64 x.price) := p2;have p3' : wr.drew.cell? ⟨gB, 3, none⟩ = some (.int .i64 x.left) := p3;have q0' : wr.drew.cell? ⟨gA, 0, none⟩ = some (.int .i64 y.id) := q0;have q1' : wr.drew.cell? ⟨gA, 1, none⟩ = some (.int .i64 y.acc) := q1;have q2' : wr.drew.cell? ⟨gA, 2, none⟩ = some (.int .i64 y.price) := q2;have q3' : wr.drew.cell? ⟨gA, 3, none⟩ = some (.int .i64 y.left) := q3;have lB' : gB < wr.drew.heap.size := lB;have lA' : gA < wr.drew.heap.size := lA;clear p0 p1 p2 p3 q0 q1 q2 q3 lB lA HT;generalize wr.drew = W1 at *;have HU : Hid (Calls Tryz.prog 122 #[.agg #[.int .i64 x.id, .int .i64 x.acc, .int .i64 x.price, .int .i64 x.left], .agg #[.int .i64 y.id, .int .i64 y.acc, .int .i64 y.price, .int .i64 y.left], .int .i64 n, .pointer (some ⟨KO, 0, none⟩), .pointer (some ⟨KP, 0, none⟩)] W1.drew fun e w' => e = .returned (.agg #[.int .i64 x.acc, .int .i64 y.acc, .int .i64 p, .int .i64 n]) ∧ Hid (∃ a' c' w6, (Builtin.append_ #[34, 34] 34 #[.slice ua F.length uc, .slice (some ⟨w'.heap.size, 0, none⟩) 1 1]).run Tryz.prog (w'.alloc (.cells #[.int .i64 x.acc, .int .i64 y.acc, .int .i64 p, .int .i64 n] 106)) = .ok (.slice a' (F.length + 1) c') w6 ∧ TX w mb (c + 3 * (F.length + 1)) (stlC f x.acc x.price y.acc p n) (x :: bs) (y :: ys) (F ++ [⟨x.acc, y.acc, p, n⟩]) (.slice (some ⟨gB, 0, none⟩) nb bc) (.slice (some ⟨gA, 0, none⟩) na ac) (.slice a' (F.length + 1) c') w6) ∧ w'.cell? ⟨gB, 0, none⟩ = some (.int .i64 x.id) ∧ w'.cell? ⟨gB, 1, none⟩ = some (.int .i64 x.acc) ∧ w'.cell? ⟨gB, 2, none⟩ = some (.int .i64 x.price) ∧ w'.cell? ⟨gB, 3, none⟩ = some (.int .i64 x.left) ∧ w'.cell? ⟨gA, 0, none⟩ = some (.int .i64 y.id) ∧ w'.cell? ⟨gA, 1, none⟩ = some (.int .i64 y.acc) ∧ w'.cell? ⟨gA, 2, none⟩ = some (.int .i64 y.price) ∧ w'.cell? ⟨gA, 3, none⟩ = some (.int .i64 y.left)) := by
    have hT := HT2.out.keep (Below.refl _ W1).drew;have hcgf : ∀ u v, 0 ≤ cg f u v ∧ cg f u v ≤ 4000000000000000000 := fun u v => by have := hcg u v; omega
    refine (un1_is mb (c + 3 * F.length) f x.id x.acc x.price x.left y.id y.acc y.price y.left p n KO KP W1.drew hT.cm ((hT.out.block KO lKO nO).trans HK.out.1) ((hT.out.block KP lKP nP).trans HK.out.2) (by omega) hC1 hC2 (by omega) hp (by omega) hcgf).mono ?_;rintro e w' ⟨rfl, hM, hO⟩;have hT3 := hT.call hM hO;obtain ⟨a', c', w6, hrun, hX⟩ := hT3.app ⟨x.acc, y.acc, p, n⟩ (by omega);have hgB : gB ≠ mb := by
     have := row_block (k := gB) hT.rb rfl;have := hT.lt;omega
    have hgA : gA ≠ mb := by
     have := row_block (k := gA) hT.ra rfl;have := hT.lt;omega
    have cB : ∀ j, w'.cell? ⟨gB, j, none⟩ = W1.cell? ⟨gB, j, none⟩ := fun j => by
     have := hO.block gB lB' hgB;simp only [World.cell?, this]
     rfl
    have cA : ∀ j, w'.cell? ⟨gA, j, none⟩ = W1.cell? ⟨gA, j, none⟩ := fun j => by
     have := hO.block gA lA' hgA;simp only [World.cell?, this]
     rfl
    exact ⟨rfl, ⟨a', c', w6, hrun, by rw [show c + 3 * (F.length + 1) = c + 3 * F.length + 3 by omega]; exact hX⟩, (cB 0).trans p0', (cB 1).trans p1', (cB 2).trans p2', (cB 3).trans p3', (cA 0).trans q0', (cA 1).trans q1', (cA 2).trans q2', (cA 3).trans q3'⟩
   go_upto_region 4 with fail
   go_cut [8] from 27 to 38 (fun v wx => ∃ a' c', v = .slice a' (F.length + 1) c' ∧ Hid (TX w mb (c + 3 * (F.length + 1)) (stlC f x.acc x.price y.acc p n) (x :: bs) (y :: ys) (F ++ [⟨x.acc, y.acc, p, n⟩]) (.slice (some ⟨gB, 0, none⟩) nb bc) (.slice (some ⟨gA, 0, none⟩) na ac) (.slice a' (F.length + 1) c') wx))
   case first =>
    clear HT2 HN2 HLN HTB HTA
    go_region_held3 (fun W => W.cell? ⟨gB, 0, none⟩ = some (.int .i64 x.id) ∧ W.cell? ⟨gB, 1, none⟩ = some (.int .i64 x.acc) ∧ W.cell? ⟨gB, 2, none⟩ = some (.int .i64 x.price) ∧ W.cell? ⟨gB, 3, none⟩ = some (.int .i64 x.left) ∧ W.cell? ⟨gA, 0, none⟩ = some (.int .i64 y.id) ∧ W.cell? ⟨gA, 1, none⟩ = some (.int .i64 y.acc) ∧ W.cell? ⟨gA, 2, none⟩ = some (.int .i64 y.price) ∧ W.cell? ⟨gA, 3, none⟩ = some (.int .i64 y.left)) (go_keep) (first | (go_at_call 122; refine HU.out.mono ?_; rintro e w5 ⟨rfl, HE, j0, j1, j2, j3, j4, j5, j6, j7⟩; obtain ⟨a6, c6, w6, hrun6, hX6⟩ := HE.out; obtain ⟨z0, z1, z2, z3, z4, z5, z6, z7⟩ := hX6.head8; have HX6 := hideIt hX6; clear hX6 HE) | (refine step_app_runK rfl _ _ 34 34 rfl _ _ rfl rfl hrun6 ?_) | (at_builtin; refine Lib.wpList_append_run _ rfl _ _ _ _ rfl _ _ rfl rfl _ _ hrun6 ?_))
    all_goals go_wp2_with fail
    all_goals go_meet
    all_goals exact ⟨a6, c6, rfl, HX6⟩
   case rest =>
   obtain ⟨a6, c6, rfl, HX⟩ := hcut;clear HU HT2 p0' p1' p2' p3' q0' q1' q2' q3' lB' lA';have hnl : n ≤ x.left ∧ n ≤ y.left := by have := HNN.out; omega
   have hb0 : wc.ownsRow w.heap.size 115 4 (.slice (some ⟨gB, 0, none⟩) nb bc) nb (celC ordE (x :: bs)) := by
    have := HX.out.rb;rw [HNB.out] at this;exact this
   have HB0 := hideIt (HTB.out n wc _ hb0 (by omega));clear hb0 HTB
   go_wp2_with fail
   refine HB0.out.mono ?_;rintro e w2 ⟨v2, rfl, how, hgr, heq⟩;dsimp only;have T2 := hideIt (HX.out.takB how hgr heq);obtain ⟨b2, bk2, rfl⟩ := own_len how;clear how hgr heq HX HB0;have ha0 : w2.ownsRow w.heap.size 115 4 (.slice (some ⟨gA, 0, none⟩) na ac) na (celC ordE (y :: ys)) := by
    have := T2.out.ra;rw [HNA.out] at this;exact this
   have HA0 := hideIt (HTA.out n w2 _ ha0 (by omega));clear ha0 HTA
   go_wp2_with fail
   refine HA0.out.mono ?_;rintro e w3 ⟨v3, rfl, how, hgr, heq⟩;dsimp only;have T3 := hideIt (T2.out.takA how hgr heq);obtain ⟨a2, ak2, rfl⟩ := own_len how;clear how hgr heq T2 HA0;have hwv : IntKind.i64.wrap (V - n) = V - n := by rw [IntKind.wrap_i64]; omega
   have T4 : Hid (TX w mb (c + 3 * (F ++ [(⟨x.acc, y.acc, p, n⟩ : FillV)]).length) (stlC f x.acc x.price y.acc p n) (takO n (x :: bs)) (takO n (y :: ys)) (F ++ [⟨x.acc, y.acc, p, n⟩]) (.slice b2 (takO n (x :: bs)).length bk2) (.slice a2 (takO n (y :: ys)).length ak2) (.slice a6 (F ++ [(⟨x.acc, y.acc, p, n⟩ : FillV)]).length c6) w3) := by
    show TX _ _ _ _ _ _ _ _ _ _ _
    rw [show (F ++ [(⟨x.acc, y.acc, p, n⟩ : FillV)]).length = F.length + 1 by simp];exact T3.out
   have hl1 := HLN.out;have hl2 := HLB.out;have hl3 := HLA.out;have HLL : Hid ((takO n (x :: bs)).length + (takO n (y :: ys)).length ≤ k2 ∧ (takO n (x :: bs)).length + (takO n (y :: ys)).length < nb + na) := ⟨by omega, by omega⟩;generalize htb : (takO n (x :: bs)) = TB at *;generalize hta : (takO n (y :: ys)) = TA at *;clear hl1 hl2 hl3 htb hta T3;go_wp2
   go_roundw
   case rel => exact ⟨k2, V - n, TB, TA, F ++ [⟨x.acc, y.acc, p, n⟩], _, b2, bk2, a2, ak2, a6, c6, rfl, rfl, rfl, by simp, HLL.out.1, by simp; omega, HN2, T4⟩
   case measure => exact HLL.out.2
  ·have hz : trdC p k B A V f F = (B, A, f, F) := by
    cases k with
    | zero => rfl
    | succ k => unfold trdC; rw [if_neg hV]
   have hRR := HV.out.1;rw [hz] at hRR;have HRR := hideIt hRR;clear HV hz hRR;go_wp2;exact bodyPost_ret (v := .tuple #[.slice ba B.length bc, .slice aa A.length ac, .slice ua F.length uc]) (by simp [results, Tryz.results121, go_sem]) rfl ⟨.slice ba B.length bc, .slice aa A.length ac, .slice ua F.length uc, rfl, c + 3 * F.length, by rw [← HRR.out]; exact HT.out⟩
end Go.Proofs.YtiinigifjdpicaaGreatDoor
namespace Go.Proofs.YtiinigifjdpicaaGreatDoor
open Go.RowKit Go.Maps
set_option linter.all false
def ovrC (f : Cls) : Prop := ∃ x a, Cl2 x a ∧ 9007199254740992 < cg f x a
theorem CM.val {w : World} {mb c : Nat} {f : Cls} (h : CM w mb c f) : ∃ n D, w.ownsMap Tryz.prog 212 heldR mb n D ∧ (∀ kl, has D kl = true → ∃ x a p, Cl2 x a ∧ kl = clK x a ∧ f x a = some p ∧ ∀ z, D.atKey kl z = .held (.int .i64 p)) ∧ ∀ x a p, Cl2 x a → f x a = some p → has D (clK x a) = true := by
 obtain ⟨n, D, h1, h2, h3, h4, h5⟩ := h;refine ⟨n, D, h2, fun kl hk => ?_, fun x a p hx hp => has_true_of_atKey (h3 x a hx p hp)⟩;obtain ⟨x, a, hx, rfl⟩ := h5 kl hk;cases hf : f x a with
 | none =>
  rw [has_false_of_atKey (h4 x a hx hf)] at hk;cases hk
 | some p => exact ⟨x, a, p, hx, rfl, hf, h3 x a hx p hf⟩
set_option maxHeartbeats 8000000 in
set_option maxRecDepth 100000 in
theorem areOver_is (mb c : Nat) (f : Cls) (b : Bool) (w : World) (h : CM w mb c f) (hb : b = true ↔ ovrC f) : Calls Tryz.prog 124 #[.map (some mb)] w fun e w' => e = .returned (.bool b) ∧ Below w.heap.size w w' := by
 obtain ⟨n, D, hown, hv, hh⟩ := h.val;have HV := hideIt hv;have HB := hideIt hb;have HN := hideIt (show (∀ kl, has D kl = true → ∃ x a p, Cl2 x a ∧ kl = clK x a ∧ f x a = some p ∧ p ≤ 9007199254740992) → b = false from fun hk => by
  cases hbb : b
  ·rfl
  ·obtain ⟨x, a, hx, hg⟩ := hb.1 hbb;cases hf : f x a with
   | none => simp [cg, hf] at hg
   | some p =>
    obtain ⟨y, d, q, hy, he, hq, hle⟩ := hk _ (hh x a p hx hf);obtain ⟨rfl, rfl⟩ := cl_inj hx hy he;rw [hf] at hq;cases hq
    simp [cg, hf] at hg
    omega)
 have HY := hideIt (show ∀ x a p, Cl2 x a → f x a = some p → 9007199254740992 < p → b = true from fun x a p hx hp hl => hb.2 ⟨x, a, hx, by simp [cg, hp]; exact hl⟩)
 clear hv hb h hh
 go_enter Tryz.func124, Tryz.ntmps124
 go_wp2_with (first | (at_range; refine wpList_range_own _ rfl _ 183 rfl 212 3 cl_keyed Tryz.underlying183 heldR mb n D rfl hown ?_; intro w0 hrg0 hg0 hs0) | go_in)
 go_frame
 have B0 : Hid (Below w.heap.size w w0) := grown_none hg0;have HRG := hideIt hrg0;clear hg0 hs0 hown hrg0
 go_loopw [4] (fun v wr => ∃ left cnt, Hid (wr.ranges Tryz.prog 212 heldR mb w.heap.size n D left cnt ∧ (∀ kl, left kl = true → has D kl = true) ∧ (∀ kl, has D kl = true → left kl = false → ∃ x a p, Cl2 x a ∧ kl = clK x a ∧ f x a = some p ∧ p ≤ 9007199254740992) ∧ Below w.heap.size w wr)) (fun _ wr => wr.rangeLeft mb w.heap.size)
 case atStart => exact ⟨_, _, hideIt ⟨HRG.out, fun _ h => h, fun kl h1 h2 => (by rw [h1] at h2; cases h2), B0.out⟩⟩
 case round =>
  clear HRG B0;obtain ⟨left, cnt, HR⟩ := hrel;have hrg := HR.out.1
  go_wp2_with (first | (at_next; refine wpList_next_ranges _ rfl _ rfl 212 cl_keyed heldR (fun v : Value => v) (fun v : Value => v) (fun key kl h => ⟨key, rfl⟩) (fun v y h => ⟨v, rfl⟩) mb w.heap.size n D left cnt rfl hrg ?_ ?_) | go_in)
  ·intro h0 hl;have hbf := HN.out (fun kl hk => HR.out.2.2.1 kl hk (hl kl));have HF := hideIt hbf;have BB := hideIt HR.out.2.2.2;clear hbf hrg HR;go_wp2;go_ret
   exact ⟨by rw [HF.out]; rfl, BB.out⟩
  ·intro x v kl yd yps w1 cnt1 hkey hlk hR hat hrg1 hlt hg1 hs1 hen;obtain ⟨x', a', p, hx', hkl, hfp, hval⟩ := HV.out kl (HR.out.2.1 kl hlk);have hvp : v = .int .i64 p := by
    have h1 := hat (.held (.int .i64 0));rw [hval] at h1;unfold heldR at hR;cases hR
    simpa using h1.symm
   subst hvp;have R1 := hideIt hrg1;have RO := hideIt hrg;have B1 : Hid (Below w.heap.size w w1) := below_out HR.out.2.2.2 (Out.ofGrown (F := fun k => k = w.heap.size) hg1 (fun k e => by cases e; rfl)) (fun k e => by omega)
   have LT := hideIt hlt;clear hg1 hs1 hrg1 hrg hat hR hval
   by_cases hp : 9007199254740992 < p
   ·have HT := hideIt (HY.out x' a' p hx' hfp hp);clear HR hkey hlk R1 RO LT;go_wp2;go_ret
    exact ⟨by rw [HT.out]; rfl, B1.out⟩
   ·have Z : Hid (w1.ranges Tryz.prog 212 heldR mb w.heap.size n D (fun z => left z && !z.sameKey kl) cnt1 ∧ (∀ k', (left k' && !k'.sameKey kl) = true → has D k' = true) ∧ (∀ k', has D k' = true → (left k' && !k'.sameKey kl) = false → ∃ x a p, Cl2 x a ∧ k' = clK x a ∧ f x a = some p ∧ p ≤ 9007199254740992) ∧ Below w.heap.size w w1) := by
     refine ⟨R1.out, fun k' hk => HR.out.2.1 k' (by simp at hk; exact hk.1), fun k' hk hl => ?_, B1.out⟩
     by_cases e : left k' = true
     ·rw [e] at hl;simp only [Bool.true_and, Bool.not_eq_false'] at hl
      exact ⟨x', a', p, hx', (WideAt.sameKey_eq hl).trans hkl, hfp, by omega⟩
     ·exact HR.out.2.2.1 k' hk (by simpa using e)
    clear HR hkey hlk;go_wp2
    go_roundw
    case rel => exact ⟨_, _, Z⟩
    case measure => rw [R1.out.left_eq, RO.out.left_eq]; exact LT.out
end Go.Proofs.YtiinigifjdpicaaGreatDoor
namespace Go.Proofs.YtiinigifjdpicaaGreatDoor
open Go.RowKit Go.Maps
set_option linter.all false
def ovrD (f : Cls) : Bool := (List.range 8).any (fun i => (List.range 2).any (fun j => decide (9007199254740992 < cg f ((i : Int) + 1) (j : Int))))
theorem ovrD_iff (f : Cls) : ovrD f = true ↔ ovrC f := by
 unfold ovrD ovrC;simp only [List.any_eq_true, List.mem_range, decide_eq_true_eq]
 constructor
 ·rintro ⟨i, hi, j, hj, h⟩
  exact ⟨_, _, ⟨⟨by omega, by omega⟩, ⟨by omega, by omega⟩⟩, h⟩
 ·rintro ⟨x, a, ⟨⟨h1, h2⟩, h3, h4⟩, h⟩;refine ⟨(x - 1).toNat, by omega, a.toNat, by omega, ?_⟩;have e1 : (((x - 1).toNat : Nat) : Int) + 1 = x := by omega
  have e2 : ((a.toNat : Nat) : Int) = a := by omega
  rw [e1, e2];exact h
def uncR (L : LaneV) : LaneV × List FillV × Int :=
 if rfE L true = 0 then (if ovrD (trdC (clL L).1 80 L.bids L.asks (clL L).2.1 (clsOf L.owed) []).2.2.1 = true then (zLn, [], 131) else (⟨false, L.next, (trdC (clL L).1 80 L.bids L.asks (clL L).2.1 (clsOf L.owed) []).1, (trdC (clL L).1 80 L.bids L.asks (clL L).2.1 (clsOf L.owed) []).2.1, lstK (trdC (clL L).1 80 L.bids L.asks (clL L).2.1 (clsOf L.owed) []).2.2.1 8⟩, (trdC (clL L).1 80 L.bids L.asks (clL L).2.1 (clsOf L.owed) []).2.2.2, 0)) else (zLn, [], rfE L true)
def UnB (X : LaneV × List FillV × Int) (w : World) (e : Ending) (w' : World) : Prop := ∃ b a o u, e = .returned (.tuple #[laneV X.1 b a o, u, .int .i64 X.2.2]) ∧ w'.ownsRow w.heap.size 115 4 b X.1.bids.length (celC ordE X.1.bids) ∧ w'.ownsRow w.heap.size 115 4 a X.1.asks.length (celC ordE X.1.asks) ∧ w'.ownsRow w.heap.size 61 3 o X.1.owed.length (celC oweE X.1.owed) ∧ w'.ownsRow w.heap.size 106 4 u X.2.1.length (celC filE X.2.1) ∧ Below w.heap.size w w'
theorem CB.turn {w wx wy : World} {mb : Nat} {L : LaneV} {b a o : Value} (h : CB w L b a o wx) (ho : Out (fun k => k = mb) wx wy) (hm : w.heap.size + 2 ≤ mb) : CB w L b a o wy :=
 ⟨(ho.block _ (by have := h.size; omega) (by omega)).trans h.box, (ho.block _ (by have := h.size; omega) (by omega)).trans h.res, below_out h.bel ho (fun k e => by omega), Nat.le_trans h.size ho.size⟩
set_option maxHeartbeats 16000000 in
set_option maxRecDepth 100000 in
theorem uncross_is (L : LaneV) (b a o : Value) (w : World) (h : Lan w L b a o) : Calls Tryz.prog 82 #[laneV L b a o] w (UnB (uncR L) w) := by
 have X0 := hideIt (CB.first w L b a o);have HC := hideIt (aRefused_is L b a o true _ (h.keep X0.out.bel));have HL := hideIt (fun W (hW : Below w.heap.size w W) => h.keep hW)
 by_cases h0 : rfE L true = 0
 ·have hk := (rf_chk h0).1;rw [h0] at HC;have hm := chk_may hk;have HCO := hideIt (fun W (hW : Below w.heap.size w W) => claimsOf_is o L.owed W (HL.out W hW).owed (cl_keys hk).1 (by have := (cl_keys hk).2; omega))
  have HCL := hideIt (fun W (hW : Below w.heap.size w W) => clearing_is L b a o W (HL.out W hW) hk);have HTR := hideIt (fun W mb KO KP (hW : Below w.heap.size w W) (hM : CM W mb L.owed.length (clsOf L.owed)) hKO hKP => trade_is L b a o (clL L).2.1 (clL L).1 mb L.owed.length KO KP (clsOf L.owed) W (HL.out W hW) hM (by have := (cl_keys hk).2; omega) hKO hKP (cl_start hk).2 hm.lb hm.la (iv_start hk))
  obtain ⟨R, hR⟩ : ∃ R, R = trdC (clL L).1 80 L.bids L.asks (clL L).2.1 (clsOf L.owed) [] := ⟨_, rfl⟩;rw [← hR] at HTR;have HU1 : Hid (ovrC R.2.2.1 → uncR L = (zLn, [], 131)) := fun ho => by
   unfold uncR;rw [if_pos h0, ← hR, if_pos ((ovrD_iff _).2 ho)]
  have HU2 : Hid (¬ ovrC R.2.2.1 → uncR L = (⟨false, L.next, R.1, R.2.1, lstK R.2.2.1 8⟩, R.2.2.2, 0)) := fun ho => by
   unfold uncR;rw [if_pos h0, ← hR, if_neg (fun c => ho ((ovrD_iff _).1 c))]
  clear hR h0;generalize uncR L = RX at *;generalize (clL L).1 = pr at *;generalize (clL L).2.1 = vo at *;generalize clsOf L.owed = f0 at *;obtain ⟨RB, RA, RF, RL⟩ := R;dsimp only at HU1 HU2 HTR;obtain ⟨ba, bc, rfl⟩ := h.bids.slice;obtain ⟨aa, ac, rfl⟩ := h.asks.slice;obtain ⟨oa, oc, rfl⟩ := h.owed.slice;clear h HL hm hk;unfold laneV laneA at *;obtain ⟨cl, nx, bids, asks, owed⟩ := L;simp only at *
  go_enter Tryz.func82, Tryz.ntmps82
  go_wp2_with fail
  refine HC.out.mono ?_;rintro e w1 ⟨rfl, hb⟩;dsimp only;have X1 := hideIt (X0.out.keep hb);clear hb X0 HC;obtain ⟨x0, x1, x2, x3, x4⟩ := X1.out.cells;simp only at x0 x1 x2 x3 x4;have xz : w.heap.size < w1.heap.size := by have := X1.out.size; omega
  go_wp2_with fail
  refine (HCO.out _ X1.out.bel).mono ?_;rintro e w2 ⟨rfl, hM, hb⟩;dsimp only;have hb2 := below1 w2 (.cells #[.map (some w1.heap.size)] 183);have X2 := hideIt (X1.out.keep (below_via hb hb2));have M2 := hideIt (hM.keep hb2);have K2 := hideIt (heap_alloc_new w2 (.cells #[.map (some w1.heap.size)] 183));have hmb : w.heap.size + 2 ≤ w1.heap.size := X1.out.size;clear hM hb hb2 X1 HCO x0 x1 x2 x3 x4 xz
  go_upto_region 5 with fail
  generalize w2.alloc (.cells #[.map (some w1.heap.size)] 183) = W2 at *;generalize w2.heap.size = KO at *;generalize w1.heap.size = mb at *;obtain ⟨x0, x1, x2, x3, x4⟩ := X2.out.cells;simp only at x0 x1 x2 x3 x4;have xz : w.heap.size < W2.heap.size := by have := X2.out.size; omega
  go_wp2_with fail
  refine (HCL.out _ X2.out.bel).mono ?_;rintro e w3 ⟨rfl, hb⟩;dsimp only;have hb3 := below1 w3 (.cells #[.int .i64 pr] 3);have hbb := below_via hb hb3;have X3 := hideIt (X2.out.keep hbb);have M3 := hideIt (M2.out.keep hbb);have K3 := hideIt (blkK K2.out hbb);have P3 := hideIt (heap_alloc_new w3 (.cells #[.int .i64 pr] 3));clear hb hb3 hbb X2 M2 K2 HCL x0 x1 x2 x3 x4 xz
  go_upto_region 6 with fail
  generalize w3.alloc (.cells #[.int .i64 pr] 3) = W3 at *;generalize w3.heap.size = KP at *;obtain ⟨x0, x1, x2, x3, x4⟩ := X3.out.cells;simp only at x0 x1 x2 x3 x4;have xz : w.heap.size < W3.heap.size := by have := X3.out.size; omega
  go_wp2_with fail
  refine (HTR.out _ mb KO KP X3.out.bel M3.out K3.out P3.out).mono ?_;rintro e w4 ⟨bv, av, uv, c2, rfl, hTX⟩;dsimp only;have hO4 := hTX.out;have hlt4 := hTX.lt;have nKO : KO ≠ mb := by
   rintro rfl;obtain ⟨n', D, -, ⟨es, clock, hb, -⟩, -⟩ := M3.out;rw [hb] at K3;cases K3.out
  have X4 := hideIt (X3.out.turn hO4 hmb);have K4 := hideIt ((hO4.block KO (Array.getElem?_eq_some_iff.1 K3.out).1 nKO).trans K3.out);have T4 := hideIt hTX;have hbs := X3.out.bel.size;obtain ⟨bva, bvc, rfl⟩ := own_len hTX.rb;obtain ⟨ava, avc, rfl⟩ := own_len hTX.ra;obtain ⟨uva, uvc, rfl⟩ := own_len hTX.ru;clear hTX hO4 HTR X3 M3 K3 P3 x0 x1 x2 x3 x4 xz;have k0 : w4.cell? ⟨KO, 0, none⟩ = some (.map (some mb)) := by rw [cell_at K4.out]; rfl
  have kz : KO < w4.heap.size := (Array.getElem?_eq_some_iff.1 K4.out).1
  by_cases hov : ovrC RF
  ·have HR : Hid (RX = (zLn, [], 131)) := HU1.out hov;have HOV := hideIt (areOver_is mb c2 RF true w4 T4.out.cm ⟨fun _ => hov, fun _ => rfl⟩);clear HU1 HU2 hov
   go_wp2_with fail
   refine HOV.out.mono ?_;rintro e w5 ⟨rfl, hb⟩;dsimp only;have X5 := hideIt (X4.out.keep hb);clear hb X4 K4 T4 k0 kz HOV;obtain ⟨⟨r0, r1, r2, r3, r4⟩, rf, rl⟩ := five5_at X5.out.res;have HP := hideIt (X5.out.put (.bool false) (.int .i64 0) (.slice none 0 0) (.slice none 0 0) (.slice none 0 0));go_wp2
   revert HP
   generalize (World.setCell _ ⟨w.heap.size + 1, 4, none⟩ _) = W;intro HP;exact bodyPost_ret (v := .tuple #[laneV zLn (.slice none 0 0) (.slice none 0 0) (.slice none 0 0), .slice none 0 0, .int .i64 131]) (by simp [results, Tryz.results82, go_sem, cell_at HP.out.1, laneV, laneA, zLn]) rfl (by unfold UnB; rw [HR.out]; exact ⟨_, _, _, _, rfl, own_nil _ _, own_nil _ _, own_nil _ _, own_nil _ _, HP.out.2⟩)
  ·have HR : Hid (RX = (⟨false, nx, RB, RA, lstK RF 8⟩, RL, 0)) := HU2.out hov;have HOV := hideIt (areOver_is mb c2 RF false w4 T4.out.cm ⟨fun h => (by cases h), fun h => absurd h hov⟩);clear HU1 HU2 hov
   go_wp2_with fail
   refine HOV.out.mono ?_;rintro e w5 ⟨rfl, hb⟩;dsimp only;have X5 := hideIt (X4.out.keep hb);have K5 := hideIt (blkK K4.out hb);have T5 := hideIt (T4.out.keep hb);clear hb X4 K4 T4 k0 kz HOV;have HLS : Hid (∀ W, Below w5.heap.size w5 W → Calls Tryz.prog 125 #[.map (some mb)] W fun e w' => ∃ q k, e = .returned (.slice q (lstK RF 8).length k) ∧ Hid (w'.ownsRow (w.heap.size + 2) 61 3 (.slice q (lstK RF 8).length k) (lstK RF 8).length (celC oweE (lstK RF 8)) ∧ Below w5.heap.size w5 w') ∧ (w'.cell? ⟨w.heap.size, 1, none⟩ = some (.int .i64 nx) ∧ w'.cell? ⟨KO, 0, none⟩ = some (.map (some mb))) ∧ w.heap.size < w'.heap.size ∧ KO < w'.heap.size ∧ (w'.cell? ⟨w.heap.size + 1, 0, none⟩ = some (.bool false) ∧ w'.cell? ⟨w.heap.size + 1, 1, none⟩ = some (.int .i64 0) ∧ w'.cell? ⟨w.heap.size + 1, 2, none⟩ = some (.slice none 0 0) ∧ w'.cell? ⟨w.heap.size + 1, 3, none⟩ = some (.slice none 0 0) ∧ w'.cell? ⟨w.heap.size + 1, 4, none⟩ = some (.slice none 0 0)) ∧ (∀ j, w'.frozen? ⟨w.heap.size + 1, j, none⟩ = false) ∧ w.heap.size + 1 < w'.heap.size) := by
    intro W hW;have hX := X5.out.keep hW;refine (list_is mb c2 RF W (T5.out.keep hW).cm).mono ?_;rintro e w' ⟨v', rfl, ho, hb⟩;obtain ⟨q, k, rfl⟩ := own_len ho;have hX' := hX.keep hb;have hB := below_via hW hb;obtain ⟨-, y1, -, -, -⟩ := hX'.cells;have hK := blkK K5.out hB;obtain ⟨⟨s0, s1, s2, s3, s4⟩, sf, sz⟩ := five5_at hX'.res
    exact ⟨q, k, rfl, ⟨own_base ho hX.size, hB⟩, ⟨y1, by rw [cell_at hK]; rfl⟩, by have := hX'.size; omega, (Array.getElem?_eq_some_iff.1 hK).1, ⟨s0, s1, s2, s3, s4⟩, sf, sz⟩
   obtain ⟨-, x1, -, -, -⟩ := X5.out.cells;have k0 : w5.cell? ⟨KO, 0, none⟩ = some (.map (some mb)) := by rw [cell_at K5.out]; rfl
   have kz : KO < w5.heap.size := (Array.getElem?_eq_some_iff.1 K5.out).1;have xz : w.heap.size < w5.heap.size := by have := X5.out.size; omega
   have nr : w.heap.size ≠ w.heap.size + 1 := by omega
   have nk : KO ≠ w.heap.size + 1 := by
    intro e;have h1 := K5.out;rw [e, X5.out.res] at h1;cases h1
   have nk2 : w.heap.size + 1 ≠ KO := fun e => nk e.symm
   have nr2 : w.heap.size + 1 ≠ w.heap.size := by omega
   simp only at x1
   go_upto_region 9 with fail
   go_region_held3 (fun W => W.cell? ⟨w.heap.size, 1, none⟩ = some (.int .i64 nx) ∧ W.cell? ⟨KO, 0, none⟩ = some (.map (some mb))) (go_keep) (first | (go_at_call 125; refine (HLS.out _ (by first | exact Below.refl _ _ | exact (Below.refl _ _).drew)).mono ?_; rintro e wO ⟨qO, mO, rfl, HQO, ⟨i1, i2⟩, iz, iy, ⟨s0, s1, s2, s3, s4⟩, sf, sz⟩; clear HLS))
   all_goals
    have XF := hideIt (X5.out.keep HQO.out.2);have TF := hideIt (T5.out.keep HQO.out.2);have HPT := hideIt (XF.out.put (.bool false) (.int .i64 nx) (.slice bva RB.length bvc) (.slice ava RA.length avc) (.slice qO (lstK RF 8).length mO));have HRW := hideIt (And.intro (own_five (own_base TF.out.rb hbs) XF.out.res (by decide) (.bool false) (.int .i64 nx) (.slice bva RB.length bvc) (.slice ava RA.length avc) (.slice qO (lstK RF 8).length mO)) (And.intro (own_five (own_base TF.out.ra hbs) XF.out.res (by decide) (.bool false) (.int .i64 nx) (.slice bva RB.length bvc) (.slice ava RA.length avc) (.slice qO (lstK RF 8).length mO)) (And.intro (own_five HQO.out.1 XF.out.res (by decide) (.bool false) (.int .i64 nx) (.slice bva RB.length bvc) (.slice ava RA.length avc) (.slice qO (lstK RF 8).length mO)) (own_five (own_base TF.out.ru hbs) XF.out.res (by decide) (.bool false) (.int .i64 nx) (.slice bva RB.length bvc) (.slice ava RA.length avc) (.slice qO (lstK RF 8).length mO)))));clear XF TF X5 T5 K5 HQO;go_wp2
    revert HPT HRW
    generalize (World.setCell _ ⟨w.heap.size + 1, 4, none⟩ _) = WF;intro HPT HRW;exact bodyPost_ret (v := .tuple #[.agg #[.bool false, .int .i64 nx, .slice bva RB.length bvc, .slice ava RA.length avc, .slice qO (lstK RF 8).length mO], .slice uva RL.length uvc, .int .i64 0]) (by simp [results, Tryz.results82, go_sem, cell_at HPT.out.1, laneA]) rfl (by unfold UnB; rw [HR.out]; exact ⟨_, _, _, _, rfl, HRW.out.1, HRW.out.2.1, own_base HRW.out.2.2.1 (by omega), HRW.out.2.2.2, by first | exact HPT.out.2 | exact HPT.out.2.drew⟩)
 ·have HR : Hid (uncR L = (zLn, [], rfE L true)) := by show _ = _; unfold uncR; rw [if_neg h0]
  generalize uncR L = RX at *;generalize rfE L true = er at *;have h0q : (er == 0) = false := by simpa using h0
  obtain ⟨ba, bc, rfl⟩ := h.bids.slice;obtain ⟨aa, ac, rfl⟩ := h.asks.slice;obtain ⟨oa, oc, rfl⟩ := h.owed.slice;clear h HL;unfold laneV laneA at *;obtain ⟨cl, nx, bids, asks, owed⟩ := L;simp only at *
  go_enter Tryz.func82, Tryz.ntmps82
  go_wp2_with fail
  refine HC.out.mono ?_;rintro e w1 ⟨rfl, hb⟩;dsimp only;have X1 := hideIt (X0.out.keep hb);clear hb X0 HC;obtain ⟨⟨r0, r1, r2, r3, r4⟩, rf, rl⟩ := five5_at X1.out.res;have HP := hideIt (X1.out.put (.bool false) (.int .i64 0) (.slice none 0 0) (.slice none 0 0) (.slice none 0 0));go_wp2
  revert HP
  generalize (World.setCell _ ⟨w.heap.size + 1, 4, none⟩ _) = W;intro HP;exact bodyPost_ret (v := .tuple #[laneV zLn (.slice none 0 0) (.slice none 0 0) (.slice none 0 0), .slice none 0 0, .int .i64 er]) (by simp [results, Tryz.results82, go_sem, cell_at HP.out.1, laneV, laneA, zLn]) rfl (by unfold UnB; rw [HR.out]; exact ⟨_, _, _, _, rfl, own_nil _ _, own_nil _ _, own_nil _ _, own_nil _ _, HP.out.2⟩)
end Go.Proofs.YtiinigifjdpicaaGreatDoor
namespace Go.Proofs.YtiinigifjdpicaaGreatDoor
open Go.RowKit Go.Maps
set_option linter.all false
theorem sumP_cons (x : OrdV) (l : List OrdV) : sumP (x :: l) = x.price * x.left + sumP l := by simp [sumP]
theorem sumQ_cons (x : OrdV) (l : List OrdV) : sumQ (x :: l) = x.left + sumQ l := by simp [sumQ]
theorem takO_sumP (n : Int) (x : OrdV) (l : List OrdV) : sumP (takO n (x :: l)) = sumP (x :: l) - x.price * n := by
 rw [takO_cons, sumP_cons]
 split
 ·rename_i h
  have e : x.left = n := by omega
  rw [e];omega
 ·rw [sumP_cons];dsimp only;rw [Int.mul_sub];omega
theorem takO_sumQ (n : Int) (x : OrdV) (l : List OrdV) : sumQ (takO n (x :: l)) = sumQ (x :: l) - n := by
 rw [takO_cons, sumQ_cons]
 split
 ·omega
 ·rw [sumQ_cons];dsimp only;omega
theorem trd_rep {L : LaneV} (hk : chkB L = true) : ∃ ow, Rep ow (trdC (clL L).1 80 L.bids L.asks (clL L).2.1 (clsOf L.owed) []).2.2.1 ∧ sumP (trdC (clL L).1 80 L.bids L.asks (clL L).2.1 (clsOf L.owed) []).1 + sumA 0 ow = holM L ∧ sumQ (trdC (clL L).1 80 L.bids L.asks (clL L).2.1 (clsOf L.owed) []).2.1 + sumA 1 ow = holG L ∧ lstK (trdC (clL L).1 80 L.bids L.asks (clL L).2.1 (clsOf L.owed) []).2.2.1 8 = ow := by
 have hm := chk_may hk;have hb := (chk_bok L).1 hk;have hlb := hm.lb;have hla := hm.la;obtain ⟨⟨ow, h1, h2, h3⟩, hi⟩ := trd_ind (cl_start hk).2 (fun B A _ f _ => ∃ ow, Rep ow f ∧ sumP B + sumA 0 ow = holM L ∧ sumQ A + sumA 1 ow = holG L) (by
  rintro x bs y ys V f F hi hV hx hy hn ⟨ow, h1, h2, h3⟩;have t2 := hi.ta y (List.mem_cons_self ..);have a1 := hi.cb x (List.mem_cons_self ..);have a2 := hi.ca y (List.mem_cons_self ..);have hs := stl_sum (l := ow) (xa := x.acc) (xp := x.price) (ya := y.acc) (n := min x.left y.left) hx;refine ⟨stlO ow x.acc x.price y.acc (clL L).1 (min x.left y.left), rep_stl h1 a1 a2 (by omega) hn.1, ?_, ?_⟩
  ·rw [takO_sumP, hs.1];omega
  ·rw [takO_sumQ, hs.2]
   omega) 80 L.bids L.asks _ _ [] (iv_start hk) (by omega) ⟨L.owed, cls_rep (owed_owok hb.ow), rfl, rfl⟩
 exact ⟨ow, h1, h2, h3, rep_list h1 (fun x a => (hi.cgb x a).1)⟩
theorem cut_dem : ∀ {l : List OrdV} {s : Int} {x : OrdV} {bs : List OrdV}, OkT l → l.Pairwise (fun x y => y.price ≤ x.price) → 0 ≤ s → cutO s l = x :: bs → s + x.left ≤ dem x.price l ∧ 1 ≤ x.left ∧ ∃ z ∈ l, z.price = x.price
 | [], s, x, bs, _, _, _, h => by simp [cutO] at h
 | y :: t, s, x, bs, hl, hp, hs, h => by
  have hy := (hl y (List.mem_cons_self ..)).2;have ht : OkT t := fun q hq => hl q (List.mem_cons_of_mem _ hq)
  rw [List.pairwise_cons] at hp;rw [cutO] at h
  by_cases e : y.left ≤ s
  ·rw [if_pos e] at h;obtain ⟨h1, h2, z, hz, hzp⟩ := cut_dem ht hp.2 (by omega) h;have := hp.1 z hz;rw [dem_cons, if_pos (by omega)]
   exact ⟨by omega, h2, z, List.mem_cons_of_mem _ hz, hzp⟩
  ·rw [if_neg e] at h;simp only [List.cons.injEq] at h;obtain ⟨rfl, rfl⟩ := h;have h0 := (dem_bd y.price t ht).1;rw [dem_cons]
   simp only
   rw [if_pos (Int.le_refl _)]
   exact ⟨by omega, by omega, y, List.mem_cons_self .., rfl⟩
theorem cut_sup : ∀ {l : List OrdV} {s : Int} {x : OrdV} {bs : List OrdV}, OkT l → l.Pairwise (fun x y => x.price ≤ y.price) → 0 ≤ s → cutO s l = x :: bs → s + x.left ≤ sup x.price l ∧ 1 ≤ x.left ∧ ∃ z ∈ l, z.price = x.price
 | [], s, x, bs, _, _, _, h => by simp [cutO] at h
 | y :: t, s, x, bs, hl, hp, hs, h => by
  have hy := (hl y (List.mem_cons_self ..)).2;have ht : OkT t := fun q hq => hl q (List.mem_cons_of_mem _ hq)
  rw [List.pairwise_cons] at hp;rw [cutO] at h
  by_cases e : y.left ≤ s
  ·rw [if_pos e] at h;obtain ⟨h1, h2, z, hz, hzp⟩ := cut_sup ht hp.2 (by omega) h;have := hp.1 z hz;rw [sup_cons, if_pos (by omega)]
   exact ⟨by omega, h2, z, List.mem_cons_of_mem _ hz, hzp⟩
  ·rw [if_neg e] at h;simp only [List.cons.injEq] at h;obtain ⟨rfl, rfl⟩ := h;have h0 := (sup_bd y.price t ht).1;rw [sup_cons]
   simp only
   rw [if_pos (Int.le_refl _)]
   exact ⟨by omega, by omega, y, List.mem_cons_self .., rfl⟩
theorem cleared_may {L : LaneV} (hk : chkB L = true) (ho : ¬ ovrC (trdC (clL L).1 80 L.bids L.asks (clL L).2.1 (clsOf L.owed) []).2.2.1) : chkB ⟨false, L.next, cutO (clL L).2.1 L.bids, cutO (clL L).2.1 L.asks, lstK (trdC (clL L).1 80 L.bids L.asks (clL L).2.1 (clsOf L.owed) []).2.2.1 8⟩ = true := by
 have hm := chk_may hk;have hb := (chk_bok L).1 hk;have hi := iv_start hk;have hv : 0 ≤ (clL L).2.1 := by
  have h1 := (dem_bd (clL L).1 L.bids hm.tb).1;have h2 := (sup_bd (clL L).1 L.asks hm.ta).1;have := hi.vol;omega
 have s1 := cut_suf hm.tb hv;have s2 := cut_suf hm.ta hv;rw [chk_bok];refine ⟨hb.next, side_suf (Int.le_refl _) s1 hb.sb, side_suf (Int.le_refl _) s2 hb.sa, ?_, .inr ?_, ?_⟩
 ·exact (hb.nd).sublist (List.Sublist.append (suf_ids s1) (suf_ids s2))
 ·intro x y hx hy;dsimp only at hx hy;obtain ⟨bs, e1⟩ : ∃ bs, cutO (clL L).2.1 L.bids = x :: bs := by
   cases hc : cutO (clL L).2.1 L.bids with
   | nil => rw [hc] at hx; cases hx
   | cons z t => rw [hc] at hx; cases hx; exact ⟨t, rfl⟩
  obtain ⟨ys, e2⟩ : ∃ bs, cutO (clL L).2.1 L.asks = y :: bs := by
   cases hc : cutO (clL L).2.1 L.asks with
   | nil => rw [hc] at hy; cases hy
   | cons z t => rw [hc] at hy; cases hy; exact ⟨t, rfl⟩
  obtain ⟨d1, d2, -⟩ := cut_dem hm.tb hi.sb hv e1;obtain ⟨u1, u2, -⟩ := cut_sup hm.ta hi.sa hv e2
  by_cases c : x.price < y.price
  ·exact c
  ·exfalso
   have h1 := sup_mono (p := x.price) (q := y.price) (by omega) hm.ta;have h2 := (most_all hk x.price).1;unfold volP at h2;omega
 ·refine owok_owed (lst_owok _) ?_;unfold overB;simp only [List.any_eq_false, decide_eq_true_eq];intro z hz;have h1 := lst_mem hz;have h2 := (lst_owok _).2 z hz;intro hc;exact ho ⟨z.acc, z.asset, ⟨h2.1, h2.2.1⟩, by rw [← h1.2.2.2]; omega⟩
theorem cleared_holds {L : LaneV} (hk : chkB L = true) : holM ⟨false, L.next, cutO (clL L).2.1 L.bids, cutO (clL L).2.1 L.asks, lstK (trdC (clL L).1 80 L.bids L.asks (clL L).2.1 (clsOf L.owed) []).2.2.1 8⟩ = holM L ∧ holG ⟨false, L.next, cutO (clL L).2.1 L.bids, cutO (clL L).2.1 L.asks, lstK (trdC (clL L).1 80 L.bids L.asks (clL L).2.1 (clsOf L.owed) []).2.2.1 8⟩ = holG L := by
 obtain ⟨ow, -, h2, h3, e⟩ := trd_rep hk;have hF := trd_facts hk;have hcb := hF.cb;have hca := hF.ca;have ev : sumN (trdC (clL L).1 80 L.bids L.asks (clL L).2.1 (clsOf L.owed) []).2.2.2 = (clL L).2.1 := by have := hF.vol; omega
 rw [ev] at hcb hca;rw [hcb] at h2;rw [hca] at h3;rw [e]
 exact ⟨h2, h3⟩
theorem place_ok {L : LaneV} {acc s price n : Int} {now : Bool} (h : (placeL L acc s price n now).2.2.2 = 0) : refE L acc s price n now = 0 ∧ placeL L acc s price n now = plX L acc s price n now ∧ overB (plR (plL L s (plT L s ⟨L.next, acc, price, n⟩).1 (plT L s ⟨L.next, acc, price, n⟩).2.2.1) s ⟨L.next, acc, price, (plT L s ⟨L.next, acc, price, n⟩).2.1⟩ now).owed = false := by
 unfold placeL at h ⊢
 by_cases hr : refE L acc s price n now ≠ 0
 ·rw [if_pos hr] at h;exact absurd h hr
 ·have hr0 : refE L acc s price n now = 0 := by simpa using hr
  rw [if_neg hr] at h ⊢;refine ⟨hr0, rfl, ?_⟩;unfold plX at h
  split at h
  ·simp at h
  ·rename_i ho
   simpa using ho
theorem place_bad {L : LaneV} {acc s price n : Int} {now : Bool} (h : (placeL L acc s price n now).2.2.2 ≠ 0) : (placeL L acc s price n now).1 = zLane ∧ (placeL L acc s price n now).2.1 = [] ∧ (placeL L acc s price n now).2.2.1 = 0 := by
 unfold placeL at h ⊢
 by_cases hr : refE L acc s price n now ≠ 0
 ·rw [if_pos hr]
  exact ⟨rfl, rfl, rfl⟩
 ·rw [if_neg hr] at h ⊢;unfold plX at h ⊢
  split
  ·exact ⟨rfl, rfl, rfl⟩
  ·rename_i ho
   rw [if_neg ho] at h;exact absurd rfl h
theorem placeL_eq {L : LaneV} {acc s price n : Int} {now : Bool} (h : (placeL L acc s price n now).2.2.2 = 0) : placeL L acc s price n now = (plR (plL L s (plT L s ⟨L.next, acc, price, n⟩).1 (plT L s ⟨L.next, acc, price, n⟩).2.2.1) s ⟨L.next, acc, price, (plT L s ⟨L.next, acc, price, n⟩).2.1⟩ now, (plT L s ⟨L.next, acc, price, n⟩).2.2.2, L.next, 0) := by
 obtain ⟨h1, h2, h3⟩ := place_ok h;rw [h2];unfold plX;rw [h3]
 rfl
theorem plT_suf {L : LaneV} {acc s price n : Int} {now : Bool} (hr : refE L acc s price n now = 0) : Suf (sideL L (if s = 1 then 2 else 1)) (plT L s ⟨L.next, acc, price, n⟩).1 ∧ 0 ≤ (plT L s ⟨L.next, acc, price, n⟩).2.1 ∧ (plT L s ⟨L.next, acc, price, n⟩).2.1 ≤ n := by
 obtain ⟨h1, h2, h3, h4, h5, h6, h7, h8⟩ := refE_ok hr;have hb := (chk_bok L).1 h1;have hm := chk_may h1;unfold plT;cases L.call
 ·have hT : OkT (sideL L (if s = 1 then 2 else 1)) ∧ AccT (sideL L (if s = 1 then 2 else 1)) := by
   rcases h2 with rfl | rfl
   ·exact ⟨hm.ta, (side_acc hb.sa).1⟩
   ·exact ⟨hm.tb, (side_acc hb.sb).1⟩
  have := trL_suf s ⟨L.next, acc, price, n⟩ h8 _ n L.owed [] hT.1 hT.2 (by omega) (owed_owok hb.ow)
  exact ⟨this.1, this.2.2.2⟩
 ·exact ⟨Suf.all _, by simp only [if_true]; omega, by simp only [if_true]; omega⟩
theorem hold_placed {L : LaneV} {acc s price n : Int} {now : Bool} (h : (placeL L acc s price n now).2.2.2 = 0) : holM (placeL L acc s price n now).1 = holM L + (if s = 1 then price * n else 0) ∧ holG (placeL L acc s price n now).1 = holG L + (if s = 1 then 0 else n) := by
 obtain ⟨h1, _, _⟩ := place_ok h;have hs := (refE_ok h1).2.1;rw [placeL_eq h];exact hold_place L s acc price n now hs (plT_suf h1).2.1
theorem can_cases (L : LaneV) (acc id : Int) (hk : chkB L = true) : (canR L acc id).2.2 = 132 ∨ (canR L acc id).2.2 = 131 ∨ ((canR L acc id).2.2 = 0 ∧ holM (canR L acc id).1 = holM L ∧ holG (canR L acc id).1 = holG L) := by
 unfold canR;rw [if_pos hk]
 split
 ·exact .inl rfl
 ·rename_i Mx hMx
  split
  ·exact .inr (.inl rfl)
  ·exact .inr (.inr ⟨rfl, hold_can (M := Mx.1) (o := Mx.2) hMx⟩)
theorem side_erase {s nx : Int} (hs : s = 1 ∨ s = 2) {l : List OrdV} (h : sideB s nx l = true) (i : Nat) : sideB s nx (l.eraseIdx i) = true := by
 unfold sideB at *;simp only [Bool.and_eq_true, decide_eq_true_eq, Bool.not_eq_true', List.any_eq_false, Bool.not_eq_true] at *;refine ⟨Nat.le_trans (List.Sublist.length_le (List.eraseIdx_sublist l i)) h.1, fun q hq => h.2.1 q ((List.eraseIdx_sublist l i).subset hq), ?_⟩;have hp : ∀ {l : List OrdV}, srtB (ahB s) l = true → l.Pairwise (fun a b => ahB s a b = true) := by
  intro l
  induction l with
  | nil => exact fun _ => List.Pairwise.nil
  | cons x l ih =>
   intro h;have i2 := ih (srt_tail h);refine List.pairwise_cons.2 ⟨fun z hz => ?_, i2⟩;cases l with
   | nil => simp at hz
   | cons y l =>
    rcases List.mem_cons.1 hz with rfl | hz
    ·exact srt_head h
    ·exact ah_trans hs (srt_head h) ((List.pairwise_cons.1 i2).1 z hz)
 have hq : ∀ {l : List OrdV}, l.Pairwise (fun a b => ahB s a b = true) → srtB (ahB s) l = true := by
  intro l
  induction l with
  | nil => exact fun _ => rfl
  | cons x l ih =>
   intro h;rw [List.pairwise_cons] at h;exact srt_cons (ih h.2) (fun y hy => h.1 y (List.mem_of_mem_head? hy))
 exact hq ((hp h.2.2).sublist (List.eraseIdx_sublist l i))
theorem erase_head {s : Int} (hs : s = 1 ∨ s = 2) {l : List OrdV} (h : srtB (ahB s) l = true) (i : Nat) {r : OrdV} (hr : (l.eraseIdx i).head? = some r) : ∃ t, l.head? = some t ∧ worse s r.price t.price := by
 cases l with
 | nil => simp at hr
 | cons q rs =>
  refine ⟨q, rfl, ?_⟩;cases i with
  | zero =>
   cases rs with
   | nil => simp at hr
   | cons z rs =>
    simp only [List.eraseIdx_cons_zero, List.head?_cons, Option.some.injEq] at hr;subst hr;exact ah_worse hs (srt_head h)
  | succ i =>
   simp only [List.eraseIdx_cons_succ, List.head?_cons, Option.some.injEq] at hr;subst hr;unfold worse; split <;> omega
theorem ids_erase (l : List OrdV) (i : Nat) : (idsL (l.eraseIdx i)).Sublist (idsL l) := (List.eraseIdx_sublist l i).map _
theorem can_may {L M : LaneV} {acc id : Int} {x : OrdV} (hk : chkB L = true) (h : canF L acc id = some (M, x)) (ho : overB M.owed = false) : chkB M = true := by
 have hB := (chk_bok L).1 hk;have hm := chk_may hk;rw [chk_bok];unfold canF at h
 split at h
 ·rename_i i hi
  rw [List.findIdx?_eq_some_iff_getElem] at hi;obtain ⟨h1, _, _⟩ := hi;have e : L.bids.getD i ⟨0, 0, 0, 0⟩ = L.bids[i] := by simp [List.getD_eq_getElem?_getD, List.getElem?_eq_getElem h1]
  rw [e] at h;simp only [Option.some.injEq, Prod.mk.injEq] at h;obtain ⟨rfl, rfl⟩ := h;have ha := (side_acc hB.sb).1 _ (List.getElem_mem h1);have ht := hm.tb _ (List.getElem_mem h1);refine ⟨hB.next, side_erase (.inl rfl) hB.sb i, hB.sa, hB.nd.sublist ((ids_erase _ _).append (List.Sublist.refl _)), ?_, owok_owed (owok_owe (owed_owok hB.ow) ha (by omega) (by unfold brN; rw [if_pos rfl]; exact mul_pos1 ht.1.1 ht.2.1)) ho⟩
  rcases hB.cr with h | h
  ·exact .inl h
  ·refine .inr (fun p q hp hq => ?_);obtain ⟨t, htt, hw⟩ := erase_head (.inl rfl) (side_acc hB.sb).2.2 i hp;have := h t q htt hq;unfold worse at hw
   simp at hw
   omega
 ·split at h
  ·rename_i i hi
   rw [List.findIdx?_eq_some_iff_getElem] at hi;obtain ⟨h1, _, _⟩ := hi;have e : L.asks.getD i ⟨0, 0, 0, 0⟩ = L.asks[i] := by simp [List.getD_eq_getElem?_getD, List.getElem?_eq_getElem h1]
   rw [e] at h;simp only [Option.some.injEq, Prod.mk.injEq] at h;obtain ⟨rfl, rfl⟩ := h;have ha := (side_acc hB.sa).1 _ (List.getElem_mem h1);have ht := hm.ta _ (List.getElem_mem h1);refine ⟨hB.next, hB.sb, side_erase (.inr rfl) hB.sa i, hB.nd.sublist ((List.Sublist.refl _).append (ids_erase _ _)), ?_, owok_owed (owok_owe (owed_owok hB.ow) ha (by omega) (by unfold brN; rw [if_neg (by omega)]; exact ht.2.1)) ho⟩
   rcases hB.cr with h | h
   ·exact .inl h
   ·refine .inr (fun p q hp hq => ?_);obtain ⟨t, htt, hw⟩ := erase_head (.inr rfl) (side_acc hB.sa).2.2 i hq;have := h p t hp htt;unfold worse at hw
    simp at hw
    omega
  ·cases h
theorem canR_may {L : LaneV} {acc id : Int} (h : (canR L acc id).2.2 = 0) : chkB (canR L acc id).1 = true := by
 unfold canR at h ⊢
 by_cases hk : chkB L = true
 ·rw [if_pos hk] at h ⊢
  split
  ·rename_i hc
   rw [hc] at h
   simp at h
  ·rename_i Mx hc
   rw [hc] at h;simp only at h
   split
   ·rename_i ho
    rw [if_pos ho] at h
    simp at h
   ·rename_i ho
    exact can_may (M := Mx.1) (x := Mx.2) hk hc (by simpa using ho)
 ·rw [if_neg hk] at h
  simp at h
theorem hol_bd {L : LaneV} (hk : chkB L = true) : (0 ≤ holM L ∧ holM L ≤ 184115188075855872) ∧ (0 ≤ holG L ∧ holG L ≤ 144115188115855872) := by
 have hm := chk_may hk;have h1 := sumP_b40 hm.tb hm.lb L.bids.length;have h2 := sumQ_b40 hm.ta hm.la L.asks.length;have h3 := sumA_b16 (a := 0) hm.ow L.owed.length;have h4 := sumA_b16 (a := 1) hm.ow L.owed.length;rw [List.take_of_length_le (Nat.le_refl _)] at h1 h2 h3 h4;unfold holM holG;omega
end Go.Proofs.YtiinigifjdpicaaGreatDoor
