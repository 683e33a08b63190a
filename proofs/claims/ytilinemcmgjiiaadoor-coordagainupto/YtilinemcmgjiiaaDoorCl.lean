/- Copies of lanes and cells: walked. -/
import Derived.Test.YtilinemcmgjiiaaDoorCf
namespace Go.Proofs.YtilinemcmgjiiaaDoor
open Go.RowKit
set_option linter.all false
set_option maxRecDepth 100000 in
set_option maxHeartbeats 8000000 in
theorem lane_is (call : Bool) (next : Int) (ba : Option Addr) (bc : Nat) (bids : List OrdV) (aa : Option Addr) (ac : Nat) (asks : List OrdV) (oa : Option Addr) (oc : Nat) (owed : List OwdV) (w : World) (h1 : Ords w (.slice ba bids.length bc) bids) (h2 : Ords w (.slice aa asks.length ac) asks) (h3 : Owds w (.slice oa owed.length oc) owed) : Calls Tryd.prog 37 #[.agg #[.bool call, .int .i64 next, .slice ba bids.length bc, .slice aa asks.length ac, .slice oa owed.length oc]] w fun e w' => ∃ b1 d1 b2 d2 b3 d3, e = .returned (.agg #[.bool call, .int .i64 next, .slice b1 bids.length d1, .slice b2 asks.length d2, .slice b3 owed.length d3]) ∧ w'.ownsRow w.heap.size 121 4 (.slice b1 bids.length d1) bids.length (celC ordE bids) ∧ w'.ownsRow w.heap.size 121 4 (.slice b2 asks.length d2) asks.length (celC ordE asks) ∧ w'.ownsRow w.heap.size 124 3 (.slice b3 owed.length d3) owed.length (celC owdE owed) ∧ Below w.heap.size w w' := by
  obtain ⟨t1, t2, t3⟩ := two_heap w (.cells #[.bool call, .int .i64 next, .slice ba bids.length bc, .slice aa asks.length ac, .slice oa owed.length oc] 79) (.cells #[.bool false, .int .i64 0, .slice none 0 0, .slice none 0 0, .slice none 0 0] 79)
  have T1 := hideIt t1
  have T2 := hideIt t2
  have HB := hideIt (below2 w (.cells #[.bool call, .int .i64 next, .slice ba bids.length bc, .slice aa asks.length ac, .slice oa owed.length oc] 79) (.cells #[.bool false, .int .i64 0, .slice none 0 0, .slice none 0 0, .slice none 0 0] 79))
  have HT := hideIt t3
  have HC1 := hideIt (fun W (hW : Below w.heap.size w W) => cloneO_is (.slice ba bids.length bc) bids W (h1.keep hW))
  have HC2 := hideIt (fun W (hW : Below w.heap.size w W) => cloneO_is (.slice aa asks.length ac) asks W (h2.keep hW))
  have HC3 := hideIt (fun W (hW : Below w.heap.size w W) => cloneW_is (.slice oa owed.length oc) owed W (h3.keep hW))
  clear t1 t2 t3 h1 h2 h3
  go_enter Tryd.func37, Tryd.ntmps37
  go_upto_region 1 with fail
  generalize (w.alloc (.cells #[.bool call, .int .i64 next, .slice ba bids.length bc, .slice aa asks.length ac, .slice oa owed.length oc] 79)).alloc (.cells #[.bool false, .int .i64 0, .slice none 0 0, .slice none 0 0, .slice none 0 0] 79) = W0 at *
  have hz0 : w.heap.size + 2 ≤ W0.heap.size := by have := HT.out; omega
  clear HT
  obtain ⟨⟨c0, c1, c2, c3, c4⟩, cf, cz⟩ := at5 T1.out
  go_wp2_with fail
  refine (HC1.out _ HB.out).mono ?_
  rintro e w1 ⟨b1, d1, rfl, ho, hb⟩
  dsimp only
  have U1 : Hid ((w1.setCell ⟨w.heap.size, 2, none⟩ (.slice b1 bids.length d1)).heap[w.heap.size]? = some (.cells #[.bool call, .int .i64 next, .slice b1 bids.length d1, .slice aa asks.length ac, .slice oa owed.length oc] 79 (0, 0))) := heap_set (blkK T1.out hb) 2 _
  have U2 := hideIt (setOther (b := w.heap.size) (j := 2) (.slice b1 bids.length d1) (blkK T2.out hb) (by omega))
  have O1 := hideIt (own_base (ownSet (b := w.heap.size) (j := 2) (.slice b1 bids.length d1) ho (by omega)) hz0)
  have B1 : Hid (Below w.heap.size w (w1.setCell ⟨w.heap.size, 2, none⟩ (.slice b1 bids.length d1))) := belowSet _ (below_via HB.out hb) (Nat.le_refl _)
  have hz1 : w.heap.size + 2 ≤ (w1.setCell ⟨w.heap.size, 2, none⟩ (.slice b1 bids.length d1)).heap.size := by have := hb.size; simp; omega
  obtain ⟨⟨e0, e1, e2, e3, e4⟩, df, dz⟩ := at5 (blkK T1.out hb)
  clear ho hb c0 c1 c2 c3 c4 cf cz T1 T2 HB HC1
  go_upto_region 2 with fail
  clear e0 e1 e2 e3 e4 df dz
  generalize w1.setCell ⟨w.heap.size, 2, none⟩ (.slice b1 bids.length d1) = W1 at *
  obtain ⟨⟨c0, c1, c2, c3, c4⟩, cf, cz⟩ := at5 U1.out
  go_wp2_with fail
  refine (HC2.out _ B1.out).mono ?_
  rintro e w2 ⟨b2, d2, rfl, ho, hb⟩
  dsimp only
  have V1 : Hid ((w2.setCell ⟨w.heap.size, 3, none⟩ (.slice b2 asks.length d2)).heap[w.heap.size]? = some (.cells #[.bool call, .int .i64 next, .slice b1 bids.length d1, .slice b2 asks.length d2, .slice oa owed.length oc] 79 (0, 0))) := heap_set (blkK U1.out hb) 3 _
  have V2 := hideIt (setOther (b := w.heap.size) (j := 3) (.slice b2 asks.length d2) (blkK U2.out hb) (by omega))
  have O2 := hideIt (own_base (ownSet (b := w.heap.size) (j := 3) (.slice b2 asks.length d2) ho (by omega)) hz1)
  have P1 := hideIt (ownSet (b := w.heap.size) (j := 3) (.slice b2 asks.length d2) (own_keep O1.out hb) (by omega))
  have B2 : Hid (Below w.heap.size w (w2.setCell ⟨w.heap.size, 3, none⟩ (.slice b2 asks.length d2))) := belowSet _ (below_via B1.out hb) (Nat.le_refl _)
  have hz2 : w.heap.size + 2 ≤ (w2.setCell ⟨w.heap.size, 3, none⟩ (.slice b2 asks.length d2)).heap.size := by have := hb.size; simp; omega
  obtain ⟨⟨e0, e1, e2, e3, e4⟩, df, dz⟩ := at5 (blkK U1.out hb)
  clear ho hb c0 c1 c2 c3 c4 cf cz U1 U2 B1 HC2 O1
  go_upto_region 3 with fail
  clear e0 e1 e2 e3 e4 df dz
  generalize w2.setCell ⟨w.heap.size, 3, none⟩ (.slice b2 asks.length d2) = W2 at *
  obtain ⟨⟨c0, c1, c2, c3, c4⟩, cf, cz⟩ := at5 V1.out
  go_wp2_with fail
  refine (HC3.out _ B2.out).mono ?_
  rintro e w3 ⟨b3, d3, rfl, ho, hb⟩
  dsimp only
  have X1 : Hid ((w3.setCell ⟨w.heap.size, 4, none⟩ (.slice b3 owed.length d3)).heap[w.heap.size]? = some (.cells #[.bool call, .int .i64 next, .slice b1 bids.length d1, .slice b2 asks.length d2, .slice b3 owed.length d3] 79 (0, 0))) := heap_set (blkK V1.out hb) 4 _
  have X2 := hideIt (setOther (b := w.heap.size) (j := 4) (.slice b3 owed.length d3) (blkK V2.out hb) (by omega))
  have O3 := hideIt (own_base (ownSet (b := w.heap.size) (j := 4) (.slice b3 owed.length d3) ho (by omega)) hz2)
  have Q1 := hideIt (ownSet (b := w.heap.size) (j := 4) (.slice b3 owed.length d3) (own_keep P1.out hb) (by omega))
  have Q2 := hideIt (ownSet (b := w.heap.size) (j := 4) (.slice b3 owed.length d3) (own_keep O2.out hb) (by omega))
  have B3 : Hid (Below w.heap.size w (w3.setCell ⟨w.heap.size, 4, none⟩ (.slice b3 owed.length d3))) := belowSet _ (below_via B2.out hb) (Nat.le_refl _)
  obtain ⟨⟨e0, e1, e2, e3, e4⟩, df, dz⟩ := at5 (blkK V1.out hb)
  clear ho hb c0 c1 c2 c3 c4 cf cz V1 V2 B2 HC3 O2 P1
  go_upto_region 4 with fail
  clear e0 e1 e2 e3 e4 df dz
  generalize w3.setCell ⟨w.heap.size, 4, none⟩ (.slice b3 owed.length d3) = W3 at *
  obtain ⟨⟨c0, c1, c2, c3, c4⟩, cf, cz⟩ := at5 X1.out
  obtain ⟨⟨e0, e1, e2, e3, e4⟩, df, dz⟩ := at5 X2.out
  go_wp2
  obtain ⟨hzz, hoo⟩ := puts5 W3 (w.heap.size + 1) 79 (.bool call) (.int .i64 next) (.slice b1 bids.length d1) (.slice b2 asks.length d2) (.slice b3 owed.length d3) X2.out
  exact bodyPost_ret (v := .agg #[.bool call, .int .i64 next, .slice b1 bids.length d1, .slice b2 asks.length d2, .slice b3 owed.length d3]) (by simp [results, Tryd.results37, go_sem, cell_at hzz]) rfl ⟨b1, d1, b2, d2, b3, d3, rfl, own_base (own_out Q1.out hoo (fun k hk => by omega)) (by omega), own_base (own_out Q2.out hoo (fun k hk => by omega)) (by omega), own_base (own_out O3.out hoo (fun k hk => by omega)) (by omega), below_out B3.out hoo (fun k hk => by omega)⟩
def CelBack (v : CelV) (w : World) (e : Ending) (w' : World) : Prop := ∃ y : CelX, e = .returned (.agg (celE y).toArray) ∧ y.v = v ∧ CelOwn w.heap.size w' y ∧ Below w.heap.size w w'
set_option maxRecDepth 100000 in
set_option maxHeartbeats 8000000 in
theorem cell_is (x : CelX) (w : World) (h : CelAt w x) : Calls Tryd.prog 21 #[.agg (celE x).toArray] w (CelBack x.v w) := by
  have hf1 := h.f.1
  have hf2 := h.b.1
  have hf3 := h.a.1
  have hf4 := h.o.1
  have HA := hideIt (fun W (hW : Below w.heap.size w W) => acct_is x.fa x.fc x.v.fr x.v.cnt W (h.f.keep hW))
  have HL := hideIt (fun W (hW : Below w.heap.size w W) => lane_is x.v.call x.v.next x.ba x.bc x.v.bids x.aa x.ac x.v.asks x.oa x.oc x.v.owed W (h.b.keep hW) (h.a.keep hW) (h.o.keep hW))
  clear h
  obtain ⟨⟨k, n, ver, fr, cnt, call, next, bids, asks, owed⟩, fa, fc, ba, bc, aa, ac, oa, oc⟩ := x
  unfold CelBack
  simp only [celE] at *
  have HS := hideIt (And.intro (And.intro hf1 hf2) (And.intro hf3 hf4))
  clear hf1 hf2 hf3 hf4
  obtain ⟨t1, t2, t3⟩ := two_heap w (.cells #[.int .i64 k, .int .i64 n, .int .i64 ver, .slice fa fr.length fc, .int .i64 cnt, .bool call, .int .i64 next, .slice ba bids.length bc, .slice aa asks.length ac, .slice oa owed.length oc] 81) (.cells #[.int .i64 0, .int .i64 0, .int .i64 0, .slice none 0 0, .int .i64 0, .bool false, .int .i64 0, .slice none 0 0, .slice none 0 0, .slice none 0 0] 81)
  have T1 := hideIt t1
  have T2 := hideIt t2
  have HB := hideIt (below2 w (.cells #[.int .i64 k, .int .i64 n, .int .i64 ver, .slice fa fr.length fc, .int .i64 cnt, .bool call, .int .i64 next, .slice ba bids.length bc, .slice aa asks.length ac, .slice oa owed.length oc] 81) (.cells #[.int .i64 0, .int .i64 0, .int .i64 0, .slice none 0 0, .int .i64 0, .bool false, .int .i64 0, .slice none 0 0, .slice none 0 0, .slice none 0 0] 81))
  have HT := hideIt t3
  clear t1 t2 t3
  go_enter Tryd.func21, Tryd.ntmps21
  go_upto_region 1 with fail
  generalize (w.alloc (.cells #[.int .i64 k, .int .i64 n, .int .i64 ver, .slice fa fr.length fc, .int .i64 cnt, .bool call, .int .i64 next, .slice ba bids.length bc, .slice aa asks.length ac, .slice oa owed.length oc] 81)).alloc (.cells #[.int .i64 0, .int .i64 0, .int .i64 0, .slice none 0 0, .int .i64 0, .bool false, .int .i64 0, .slice none 0 0, .slice none 0 0, .slice none 0 0] 81) = W0 at *
  have hz0 : w.heap.size + 2 ≤ W0.heap.size := by have := HT.out; omega
  clear HT
  obtain ⟨⟨g0, g1, g2, g3, g4, g5, g6, g7, g8, g9⟩, cf, cz⟩ := at10 T1.out
  go_wp2_with fail
  refine (HA.out _ HB.out).mono ?_
  rintro e w1 ⟨a1, c1, rfl, ho, hb⟩
  dsimp only
  have U1 : Hid (((w1.setCell ⟨w.heap.size, 3, none⟩ (.slice a1 fr.length c1)).setCell ⟨w.heap.size, 4, none⟩ (.int .i64 cnt)).heap[w.heap.size]? = some (.cells #[.int .i64 k, .int .i64 n, .int .i64 ver, .slice a1 fr.length c1, .int .i64 cnt, .bool call, .int .i64 next, .slice ba bids.length bc, .slice aa asks.length ac, .slice oa owed.length oc] 81 (0, 0))) := heap_set (heap_set (blkK T1.out hb) 3 _) 4 _
  have U2 := hideIt (setOther (b := w.heap.size) (j := 4) (.int .i64 cnt) (setOther (b := w.heap.size) (j := 3) (.slice a1 fr.length c1) (blkK T2.out hb) (by omega)) (by omega))
  have O1 := hideIt (own_base (ownSet (b := w.heap.size) (j := 4) (.int .i64 cnt) (ownSet (b := w.heap.size) (j := 3) (.slice a1 fr.length c1) (ho) (by omega)) (by omega)) hz0)
  have B1 : Hid (Below w.heap.size w ((w1.setCell ⟨w.heap.size, 3, none⟩ (.slice a1 fr.length c1)).setCell ⟨w.heap.size, 4, none⟩ (.int .i64 cnt))) := belowSet _ (belowSet _ (below_via HB.out hb) (Nat.le_refl _)) (Nat.le_refl _)
  have hz1 : w.heap.size + 2 ≤ ((w1.setCell ⟨w.heap.size, 3, none⟩ (.slice a1 fr.length c1)).setCell ⟨w.heap.size, 4, none⟩ (.int .i64 cnt)).heap.size := by have := hb.size; simp; omega
  obtain ⟨⟨e0, e1, e2, e3, e4, e5, e6, e7, e8, e9⟩, df, dz⟩ := at10 (blkK T1.out hb)
  clear ho hb g0 g1 g2 g3 g4 g5 g6 g7 g8 g9 cf cz T1 T2 HB HA
  go_upto_region 2 with fail
  clear e0 e1 e2 e3 e4 e5 e6 e7 e8 e9 df dz
  generalize ((w1.setCell ⟨w.heap.size, 3, none⟩ (.slice a1 fr.length c1)).setCell ⟨w.heap.size, 4, none⟩ (.int .i64 cnt)) = W1 at *
  obtain ⟨⟨g0, g1, g2, g3, g4, g5, g6, g7, g8, g9⟩, cf, cz⟩ := at10 U1.out
  go_wp2_with fail
  refine (HL.out _ B1.out).mono ?_
  rintro e w2 ⟨b1, d1, b2, d2, b3, d3, rfl, ho1, ho2, ho3, hb⟩
  dsimp only
  have V1 : Hid ((((((w2.setCell ⟨w.heap.size, 5, none⟩ (.bool call)).setCell ⟨w.heap.size, 6, none⟩ (.int .i64 next)).setCell ⟨w.heap.size, 7, none⟩ (.slice b1 bids.length d1)).setCell ⟨w.heap.size, 8, none⟩ (.slice b2 asks.length d2)).setCell ⟨w.heap.size, 9, none⟩ (.slice b3 owed.length d3)).heap[w.heap.size]? = some (.cells #[.int .i64 k, .int .i64 n, .int .i64 ver, .slice a1 fr.length c1, .int .i64 cnt, .bool call, .int .i64 next, .slice b1 bids.length d1, .slice b2 asks.length d2, .slice b3 owed.length d3] 81 (0, 0))) := heap_set (heap_set (heap_set (heap_set (heap_set (blkK U1.out hb) 5 _) 6 _) 7 _) 8 _) 9 _
  have V2 := hideIt (setOther (b := w.heap.size) (j := 9) (.slice b3 owed.length d3) (setOther (b := w.heap.size) (j := 8) (.slice b2 asks.length d2) (setOther (b := w.heap.size) (j := 7) (.slice b1 bids.length d1) (setOther (b := w.heap.size) (j := 6) (.int .i64 next) (setOther (b := w.heap.size) (j := 5) (.bool call) (blkK U2.out hb) (by omega)) (by omega)) (by omega)) (by omega)) (by omega))
  have P0 := hideIt (ownSet (b := w.heap.size) (j := 9) (.slice b3 owed.length d3) (ownSet (b := w.heap.size) (j := 8) (.slice b2 asks.length d2) (ownSet (b := w.heap.size) (j := 7) (.slice b1 bids.length d1) (ownSet (b := w.heap.size) (j := 6) (.int .i64 next) (ownSet (b := w.heap.size) (j := 5) (.bool call) (own_keep O1.out hb) (by omega)) (by omega)) (by omega)) (by omega)) (by omega))
  have P1 := hideIt (own_base (ownSet (b := w.heap.size) (j := 9) (.slice b3 owed.length d3) (ownSet (b := w.heap.size) (j := 8) (.slice b2 asks.length d2) (ownSet (b := w.heap.size) (j := 7) (.slice b1 bids.length d1) (ownSet (b := w.heap.size) (j := 6) (.int .i64 next) (ownSet (b := w.heap.size) (j := 5) (.bool call) (ho1) (by omega)) (by omega)) (by omega)) (by omega)) (by omega)) hz1)
  have P2 := hideIt (own_base (ownSet (b := w.heap.size) (j := 9) (.slice b3 owed.length d3) (ownSet (b := w.heap.size) (j := 8) (.slice b2 asks.length d2) (ownSet (b := w.heap.size) (j := 7) (.slice b1 bids.length d1) (ownSet (b := w.heap.size) (j := 6) (.int .i64 next) (ownSet (b := w.heap.size) (j := 5) (.bool call) (ho2) (by omega)) (by omega)) (by omega)) (by omega)) (by omega)) hz1)
  have P3 := hideIt (own_base (ownSet (b := w.heap.size) (j := 9) (.slice b3 owed.length d3) (ownSet (b := w.heap.size) (j := 8) (.slice b2 asks.length d2) (ownSet (b := w.heap.size) (j := 7) (.slice b1 bids.length d1) (ownSet (b := w.heap.size) (j := 6) (.int .i64 next) (ownSet (b := w.heap.size) (j := 5) (.bool call) (ho3) (by omega)) (by omega)) (by omega)) (by omega)) (by omega)) hz1)
  have B2 : Hid (Below w.heap.size w (((((w2.setCell ⟨w.heap.size, 5, none⟩ (.bool call)).setCell ⟨w.heap.size, 6, none⟩ (.int .i64 next)).setCell ⟨w.heap.size, 7, none⟩ (.slice b1 bids.length d1)).setCell ⟨w.heap.size, 8, none⟩ (.slice b2 asks.length d2)).setCell ⟨w.heap.size, 9, none⟩ (.slice b3 owed.length d3))) := belowSet _ (belowSet _ (belowSet _ (belowSet _ (belowSet _ (below_via B1.out hb) (Nat.le_refl _)) (Nat.le_refl _)) (Nat.le_refl _)) (Nat.le_refl _)) (Nat.le_refl _)
  obtain ⟨⟨e0, e1, e2, e3, e4, e5, e6, e7, e8, e9⟩, df, dz⟩ := at10 (blkK U1.out hb)
  clear ho1 ho2 ho3 hb g0 g1 g2 g3 g4 g5 g6 g7 g8 g9 cf cz U1 U2 B1 HL O1
  go_upto_region 3 with fail
  clear e0 e1 e2 e3 e4 e5 e6 e7 e8 e9 df dz
  generalize (((((w2.setCell ⟨w.heap.size, 5, none⟩ (.bool call)).setCell ⟨w.heap.size, 6, none⟩ (.int .i64 next)).setCell ⟨w.heap.size, 7, none⟩ (.slice b1 bids.length d1)).setCell ⟨w.heap.size, 8, none⟩ (.slice b2 asks.length d2)).setCell ⟨w.heap.size, 9, none⟩ (.slice b3 owed.length d3)) = W2 at *
  obtain ⟨⟨g0, g1, g2, g3, g4, g5, g6, g7, g8, g9⟩, cf, cz⟩ := at10 V1.out
  obtain ⟨⟨e0, e1, e2, e3, e4, e5, e6, e7, e8, e9⟩, df, dz⟩ := at10 V2.out
  go_wp2
  obtain ⟨hzz, hoo⟩ := puts10 W2 (w.heap.size + 1) 81 (.int .i64 k) (.int .i64 n) (.int .i64 ver) (.slice a1 fr.length c1) (.int .i64 cnt) (.bool call) (.int .i64 next) (.slice b1 bids.length d1) (.slice b2 asks.length d2) (.slice b3 owed.length d3) V2.out
  refine bodyPost_ret (v := .agg #[.int .i64 k, .int .i64 n, .int .i64 ver, .slice a1 fr.length c1, .int .i64 cnt, .bool call, .int .i64 next, .slice b1 bids.length d1, .slice b2 asks.length d2, .slice b3 owed.length d3]) (by simp [results, Tryd.results21, go_sem, cell_at hzz]) rfl ⟨⟨⟨k, n, ver, fr, cnt, call, next, bids, asks, owed⟩, a1, c1, b1, d1, b2, d2, b3, d3⟩, rfl, rfl, ?_, below_out B2.out hoo (fun k hk => by omega)⟩
  exact ⟨own_base (own_out P0.out hoo (fun k hk => by omega)) (by omega), own_base (own_out P1.out hoo (fun k hk => by omega)) (by omega), own_base (own_out P2.out hoo (fun k hk => by omega)) (by omega), own_base (own_out P3.out hoo (fun k hk => by omega)) (by omega), HS.out.1.1, HS.out.1.2, HS.out.2.1, HS.out.2.2⟩
end Go.Proofs.YtilinemcmgjiiaaDoor
