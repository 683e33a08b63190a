/- fresh.Coord: walked. -/
import Derived.Test.YtilinemcmgjiiaaDoorTm
namespace Go.Proofs.YtilinemcmgjiiaaDoor
open Go.RowKit
set_option linter.all false
theorem TraOwn.out {F : Nat → Prop} {wa wb : World} {B : Nat} {x : TraX} (h : TraOwn B wa x) (ho : Out F wa wb) (hF : ∀ k, F k → k < B) : TraOwn B wb x := ⟨own_out h.p ho hF, own_out h.m ho hF, h.c.out ho hF, h.x.out ho hF, h.sp, h.sm⟩
theorem TrsOwn.out {F : Nat → Prop} {wa wb : World} {B : Nat} {v : Value} {l : List TraX} (h : TrsOwn B wa v l) (ho : Out F wa wb) (hF : ∀ k, F k → k < B) : TrsOwn B wb v l := ⟨own_out h.row ho hF, fun t ht => (h.own t ht).out ho hF, h.dj, h.siz⟩
theorem TrsOwn.base {B B' : Nat} {w : World} {v : Value} {l : List TraX} (h : TrsOwn B w v l) (hb : B' ≤ B) : TrsOwn B' w v l := ⟨own_base h.row hb, fun t ht => (h.own t ht).base hb, h.dj, h.siz⟩
set_option maxRecDepth 100000 in
set_option maxHeartbeats 4000000 in
theorem coordF_is (g : Int) (a : Option Addr) (c : Nat) (l : List TraX) (w : World) (h : Trs w (.slice a l.length c) l) : Calls Tryd.prog 25 #[.agg #[.int .i64 g, .slice a l.length c]] w fun e w' => ∃ a' c' ys, e = .returned (.agg #[.int .i64 g, .slice a' l.length c']) ∧ ys.map TraX.v = l.map TraX.v ∧ TrsOwn w.heap.size w' (.slice a' l.length c') ys ∧ Below w.heap.size w w' := by
  obtain ⟨t1, t2, t3⟩ := two_heap w (.cells #[.int .i64 g, .slice a l.length c] 25) (.cells #[.int .i64 0, .slice none 0 0] 25)
  have T1 := hideIt t1
  have T2 := hideIt t2
  have HB := hideIt (below2 w (.cells #[.int .i64 g, .slice a l.length c] 25) (.cells #[.int .i64 0, .slice none 0 0] 25))
  have HT := hideIt t3
  have HC := hideIt (fun W (hW : Below w.heap.size w W) => transes_is (.slice a l.length c) l W (h.keep hW))
  unfold TraLBack at HC
  simp only [List.length_map] at HC
  clear t1 t2 t3 h
  go_enter Tryd.func25, Tryd.ntmps25
  go_upto_region 1 with fail
  generalize (w.alloc (.cells #[.int .i64 g, .slice a l.length c] 25)).alloc (.cells #[.int .i64 0, .slice none 0 0] 25) = W0 at *
  obtain ⟨⟨c0, c1⟩, cf, cz⟩ := at2 T1.out
  go_wp2_with fail
  refine (HC.out _ HB.out).mono ?_
  rintro e w1 ⟨a', c', ys, rfl, hy, ho, hb⟩
  dsimp only
  have HY := hideIt hy
  have hW0 := HT.out
  have U1 : Hid ((w1.setCell ⟨w.heap.size, 1, none⟩ (.slice a' l.length c')).heap[w.heap.size]? = some (.cells #[.int .i64 g, .slice a' l.length c'] 25 (0, 0))) := heap_set (blkK T1.out hb) 1 _
  have U2 := hideIt (setOther (b := w.heap.size) (j := 1) (.slice a' l.length c') (blkK T2.out hb) (by omega))
  have O1 := hideIt (ho.out (Out.ofSet (F := fun k => k = w.heap.size) w1 ⟨w.heap.size, 1, none⟩ (.slice a' l.length c') rfl) (fun k hk => by omega))
  have B1 : Hid (Below w.heap.size w (w1.setCell ⟨w.heap.size, 1, none⟩ (.slice a' l.length c'))) := belowSet _ (below_via HB.out hb) (Nat.le_refl _)
  obtain ⟨⟨d0, d1⟩, df, dz⟩ := at2 (blkK T1.out hb)
  clear hy hW0 ho hb c0 c1 cf cz T1 T2 HB HC
  go_upto_region 2 with fail
  clear d0 d1 df dz
  generalize w1.setCell ⟨w.heap.size, 1, none⟩ (.slice a' l.length c') = W1 at *
  obtain ⟨⟨c0, c1⟩, cf, cz⟩ := at2 U1.out
  obtain ⟨⟨d0, d1⟩, df, dz⟩ := at2 U2.out
  go_wp2
  obtain ⟨hzz, hoo⟩ := puts2 W1 (w.heap.size + 1) 25 (.int .i64 g) (.slice a' l.length c') U2.out
  have ht := HT.out
  exact bodyPost_ret (v := .agg #[.int .i64 g, .slice a' l.length c']) (by simp [results, Tryd.results25, go_sem, cell_at hzz]) rfl ⟨a', c', ys, rfl, HY.out, (O1.out.out hoo (fun k hk => by omega)).base (by omega), below_out B1.out hoo (fun k hk => by omega)⟩
end Go.Proofs.YtilinemcmgjiiaaDoor
