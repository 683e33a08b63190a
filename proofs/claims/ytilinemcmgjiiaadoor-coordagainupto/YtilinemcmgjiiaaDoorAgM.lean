/- CoordAgain: walked. -/
import Derived.Test.YtilinemcmgjiiaaDoorTc
import Derived.BigQuiet
import Derived.Deep.RegionHeld3
import Derived.Test.YtilinemcmgjiiaaDoorPt
import Derived.Test.YtilinemcmgjiiaaDoorCoA
import Derived.Deep.CutRange
namespace Go.Proofs.YtilinemcmgjiiaaDoor
open Go.RowKit
set_option linter.all false
theorem SGot.cellAt {α : Type} {k bytes : Nat} {enc : α → List Value} {w : World} {a : Option Addr} {c : Nat} {l : List α} (hk : ∀ x, (enc x).length = k) (h : SGot k bytes enc w (.slice a l.length c) l) {t : Nat} (ht : t < l.length) : ∃ b off, a = some ⟨b, off, none⟩ ∧ b < w.heap.size ∧ ∀ W, Below w.heap.size w W → ∀ i v, (enc l[t])[i]? = some v → W.cell? ⟨b, off + t * k + i, none⟩ = some v := by
  obtain ⟨-, a', c', e, -, hr⟩ := h
  simp only [Value.slice.injEq, true_and] at e
  obtain ⟨rfl, rfl⟩ := e
  obtain ⟨b, off, ha, hb, hc⟩ := hr (by omega)
  refine ⟨b, off, ha, hb, fun W hW i v hv => ?_⟩
  have hi : i < k := by
    have := (List.getElem?_eq_some_iff.1 hv).1
    rwa [hk] at this
  have hlt : t * k + i < l.length * k := by
    have h1 : (t + 1) * k ≤ l.length * k := Nat.mul_le_mul_right _ ht
    rw [Nat.add_mul, Nat.one_mul] at h1
    omega
  rw [hW.cell (p := ⟨b, off + t * k + i, none⟩) hb, Nat.add_assoc, hc (t * k + i) hlt, celC_get hk l t ht i hi, hv]
theorem neqAm (a b : Int) (w : World) : (binOp .neq 72 (.agg #[.int .i64 a, .int .i64 b]) (.agg #[.int .i64 a, .int .i64 b])).run Tryd.prog w = .ok (.bool false) w := by simp [go_sem]
theorem neqOrd (a b c d : Int) (w : World) : (binOp .neq 121 (.agg #[.int .i64 a, .int .i64 b, .int .i64 c, .int .i64 d]) (.agg #[.int .i64 a, .int .i64 b, .int .i64 c, .int .i64 d])).run Tryd.prog w = .ok (.bool false) w := by simp [go_sem]
theorem neqFil (a b c d : Int) (w : World) : (binOp .neq 146 (.agg #[.int .i64 a, .int .i64 b, .int .i64 c, .int .i64 d]) (.agg #[.int .i64 a, .int .i64 b, .int .i64 c, .int .i64 d])).run Tryd.prog w = .ok (.bool false) w := by simp [go_sem]
theorem neqOwd (a b c : Int) (w : World) : (binOp .neq 124 (.agg #[.int .i64 a, .int .i64 b, .int .i64 c]) (.agg #[.int .i64 a, .int .i64 b, .int .i64 c])).run Tryd.prog w = .ok (.bool false) w := by simp [go_sem]
theorem neqPee (a b c : Int) (d e : Bool) (w : World) : (binOp .neq 67 (.agg #[.int .i64 a, .int .i64 b, .int .i64 c, .bool d, .bool e]) (.agg #[.int .i64 a, .int .i64 b, .int .i64 c, .bool d, .bool e])).run Tryd.prog w = .ok (.bool false) w := by simp [go_sem]
theorem neqKey (a b : Int) (w : World) : (binOp .neq 37 (.agg #[.int .i64 a, .int .i64 b]) (.agg #[.int .i64 a, .int .i64 b])).run Tryd.prog w = .ok (.bool false) w := by simp [go_sem]
theorem neqTxs (a b : Int) (w : World) : (binOp .neq 35 (.agg #[.int .i64 a, .int .i64 b]) (.agg #[.int .i64 a, .int .i64 b])).run Tryd.prog w = .ok (.bool false) w := by simp [go_sem]
set_option maxRecDepth 100000 in
theorem neqReq (a b c d e f g : Int) (h : Bool) (i j k : Int) (w : World) : (binOp .neq 39 (.agg #[.int .i64 a, .int .i64 b, .int .i64 c, .int .i64 d, .int .i64 e, .int .i64 f, .int .i64 g, .bool h, .int .i64 i, .int .i64 j, .int .i64 k]) (.agg #[.int .i64 a, .int .i64 b, .int .i64 c, .int .i64 d, .int .i64 e, .int .i64 f, .int .i64 g, .bool h, .int .i64 i, .int .i64 j, .int .i64 k])).run Tryd.prog w = .ok (.bool false) w := by simp [go_sem]
set_option maxHeartbeats 4000000 in
set_option maxRecDepth 100000 in
theorem sameAm_is (a b : Option Addr) (c d : Nat) (l : List AmV) (w : World) (h1 : SGot 2 16 amE w (.slice a l.length c) l) (h2 : SGot 2 16 amE w (.slice b l.length d) l) : Calls Tryd.prog 44 #[.slice a l.length c, .slice b l.length d] w fun e w' => e = .returned (.bool true) ∧ Below w.heap.size w w' := by
  have h8 := h1.1
  have H1 := hideIt h1
  have H2 := hideIt h2
  clear h1 h2
  go_enter Tryd.func44, Tryd.ntmps44
  go_upto_region 4 with fail
  go_loopw [5] (fun x wr => ∃ t : Nat, x = .int .i64 t ∧ t ≤ l.length ∧ Hid (Below w.heap.size w wr)) (fun x _ => l.length - (RowKit.intOf x).toNat)
  case atStart => exact ⟨0, rfl, Nat.zero_le _, Below.refl _ _⟩
  case round =>
    obtain ⟨t, rfl, ht, HR⟩ := hrel
    by_cases hlt : t < l.length
    · have hltI : (t : Int) < (l.length : Int) := by omega
      have ht0 : (0 : Int) ≤ (t : Int) := by omega
      have hwt : IntKind.i64.wrap ((t : Int) + 1) = ((t + 1 : Nat) : Int) := by rw [IntKind.wrap_i64]; omega
      obtain ⟨ab, ao, rfl, hal, hac⟩ := SGot.cellAt amK H1.out hlt
      obtain ⟨bb, bo, rfl, hbl, hbc⟩ := SGot.cellAt amK H2.out hlt
      have ha := hac wr HR.out
      have hb := hbc wr HR.out
      have haz : ab < wr.heap.size := Nat.lt_of_lt_of_le hal HR.out.size
      have hbz : bb < wr.heap.size := Nat.lt_of_lt_of_le hbl HR.out.size
      clear hac hbc
      generalize l[t] = u at *
      obtain ⟨u1, u2⟩ := u
      have a0 : wr.cell? ⟨ab, ao + t * 2, none⟩ = some (.int .i64 u1) := ha 0 _ rfl
      have b0 : wr.cell? ⟨bb, bo + t * 2, none⟩ = some (.int .i64 u1) := hb 0 _ rfl
      have a1 : wr.cell? ⟨ab, ao + t * 2 + 1, none⟩ = some (.int .i64 u2) := ha 1 _ rfl
      have b1 : wr.cell? ⟨bb, bo + t * 2 + 1, none⟩ = some (.int .i64 u2) := hb 1 _ rfl
      have hqq := fun W => neqAm u1 u2 W
      clear ha hb
      have B9 := hideIt (fun m => below_drewN HR.out m)
      clear HR
      go_upto_region 6 with fail
      go_quiet (fail)
      have B10 := hideIt (B9.out nq)
      clear B9
      go_wp2
      go_roundw
      case rel => exact ⟨t + 1, by go_num, by omega, B10.out⟩
      case measure => simp [RowKit.intOf]; omega
    · have hltI : ¬ (t : Int) < (l.length : Int) := by omega
      have B2 := hideIt HR.out
      clear HR
      go_wp2
      go_ret
      exact ⟨rfl, B2.out⟩
set_option maxHeartbeats 4000000 in
set_option maxRecDepth 100000 in
theorem sameOrd_is (a b : Option Addr) (c d : Nat) (l : List OrdV) (w : World) (h1 : SGot 4 32 ordE w (.slice a l.length c) l) (h2 : SGot 4 32 ordE w (.slice b l.length d) l) : Calls Tryd.prog 73 #[.slice a l.length c, .slice b l.length d] w fun e w' => e = .returned (.bool true) ∧ Below w.heap.size w w' := by
  have h8 := h1.1
  have H1 := hideIt h1
  have H2 := hideIt h2
  clear h1 h2
  go_enter Tryd.func73, Tryd.ntmps73
  go_upto_region 4 with fail
  go_loopw [5] (fun x wr => ∃ t : Nat, x = .int .i64 t ∧ t ≤ l.length ∧ Hid (Below w.heap.size w wr)) (fun x _ => l.length - (RowKit.intOf x).toNat)
  case atStart => exact ⟨0, rfl, Nat.zero_le _, Below.refl _ _⟩
  case round =>
    obtain ⟨t, rfl, ht, HR⟩ := hrel
    by_cases hlt : t < l.length
    · have hltI : (t : Int) < (l.length : Int) := by omega
      have ht0 : (0 : Int) ≤ (t : Int) := by omega
      have hwt : IntKind.i64.wrap ((t : Int) + 1) = ((t + 1 : Nat) : Int) := by rw [IntKind.wrap_i64]; omega
      obtain ⟨ab, ao, rfl, hal, hac⟩ := SGot.cellAt ordK H1.out hlt
      obtain ⟨bb, bo, rfl, hbl, hbc⟩ := SGot.cellAt ordK H2.out hlt
      have ha := hac wr HR.out
      have hb := hbc wr HR.out
      have haz : ab < wr.heap.size := Nat.lt_of_lt_of_le hal HR.out.size
      have hbz : bb < wr.heap.size := Nat.lt_of_lt_of_le hbl HR.out.size
      clear hac hbc
      generalize l[t] = u at *
      obtain ⟨u1, u2, u3, u4⟩ := u
      have a0 : wr.cell? ⟨ab, ao + t * 4, none⟩ = some (.int .i64 u1) := ha 0 _ rfl
      have b0 : wr.cell? ⟨bb, bo + t * 4, none⟩ = some (.int .i64 u1) := hb 0 _ rfl
      have a1 : wr.cell? ⟨ab, ao + t * 4 + 1, none⟩ = some (.int .i64 u2) := ha 1 _ rfl
      have b1 : wr.cell? ⟨bb, bo + t * 4 + 1, none⟩ = some (.int .i64 u2) := hb 1 _ rfl
      have a2 : wr.cell? ⟨ab, ao + t * 4 + 2, none⟩ = some (.int .i64 u3) := ha 2 _ rfl
      have b2 : wr.cell? ⟨bb, bo + t * 4 + 2, none⟩ = some (.int .i64 u3) := hb 2 _ rfl
      have a3 : wr.cell? ⟨ab, ao + t * 4 + 3, none⟩ = some (.int .i64 u4) := ha 3 _ rfl
      have b3 : wr.cell? ⟨bb, bo + t * 4 + 3, none⟩ = some (.int .i64 u4) := hb 3 _ rfl
      have hqq := fun W => neqOrd u1 u2 u3 u4 W
      clear ha hb
      have B9 := hideIt (fun m => below_drewN HR.out m)
      clear HR
      go_upto_region 6 with fail
      go_quiet (fail)
      have B10 := hideIt (B9.out nq)
      clear B9
      go_wp2
      go_roundw
      case rel => exact ⟨t + 1, by go_num, by omega, B10.out⟩
      case measure => simp [RowKit.intOf]; omega
    · have hltI : ¬ (t : Int) < (l.length : Int) := by omega
      have B2 := hideIt HR.out
      clear HR
      go_wp2
      go_ret
      exact ⟨rfl, B2.out⟩
set_option maxHeartbeats 4000000 in
set_option maxRecDepth 100000 in
theorem sameFil_is (a b : Option Addr) (c d : Nat) (l : List FilV) (w : World) (h1 : SGot 4 32 filE w (.slice a l.length c) l) (h2 : SGot 4 32 filE w (.slice b l.length d) l) : Calls Tryd.prog 62 #[.slice a l.length c, .slice b l.length d] w fun e w' => e = .returned (.bool true) ∧ Below w.heap.size w w' := by
  have h8 := h1.1
  have H1 := hideIt h1
  have H2 := hideIt h2
  clear h1 h2
  go_enter Tryd.func62, Tryd.ntmps62
  go_upto_region 4 with fail
  go_loopw [5] (fun x wr => ∃ t : Nat, x = .int .i64 t ∧ t ≤ l.length ∧ Hid (Below w.heap.size w wr)) (fun x _ => l.length - (RowKit.intOf x).toNat)
  case atStart => exact ⟨0, rfl, Nat.zero_le _, Below.refl _ _⟩
  case round =>
    obtain ⟨t, rfl, ht, HR⟩ := hrel
    by_cases hlt : t < l.length
    · have hltI : (t : Int) < (l.length : Int) := by omega
      have ht0 : (0 : Int) ≤ (t : Int) := by omega
      have hwt : IntKind.i64.wrap ((t : Int) + 1) = ((t + 1 : Nat) : Int) := by rw [IntKind.wrap_i64]; omega
      obtain ⟨ab, ao, rfl, hal, hac⟩ := SGot.cellAt filK H1.out hlt
      obtain ⟨bb, bo, rfl, hbl, hbc⟩ := SGot.cellAt filK H2.out hlt
      have ha := hac wr HR.out
      have hb := hbc wr HR.out
      have haz : ab < wr.heap.size := Nat.lt_of_lt_of_le hal HR.out.size
      have hbz : bb < wr.heap.size := Nat.lt_of_lt_of_le hbl HR.out.size
      clear hac hbc
      generalize l[t] = u at *
      obtain ⟨u1, u2, u3, u4⟩ := u
      have a0 : wr.cell? ⟨ab, ao + t * 4, none⟩ = some (.int .i64 u1) := ha 0 _ rfl
      have b0 : wr.cell? ⟨bb, bo + t * 4, none⟩ = some (.int .i64 u1) := hb 0 _ rfl
      have a1 : wr.cell? ⟨ab, ao + t * 4 + 1, none⟩ = some (.int .i64 u2) := ha 1 _ rfl
      have b1 : wr.cell? ⟨bb, bo + t * 4 + 1, none⟩ = some (.int .i64 u2) := hb 1 _ rfl
      have a2 : wr.cell? ⟨ab, ao + t * 4 + 2, none⟩ = some (.int .i64 u3) := ha 2 _ rfl
      have b2 : wr.cell? ⟨bb, bo + t * 4 + 2, none⟩ = some (.int .i64 u3) := hb 2 _ rfl
      have a3 : wr.cell? ⟨ab, ao + t * 4 + 3, none⟩ = some (.int .i64 u4) := ha 3 _ rfl
      have b3 : wr.cell? ⟨bb, bo + t * 4 + 3, none⟩ = some (.int .i64 u4) := hb 3 _ rfl
      have hqq := fun W => neqFil u1 u2 u3 u4 W
      clear ha hb
      have B9 := hideIt (fun m => below_drewN HR.out m)
      clear HR
      go_upto_region 6 with fail
      go_quiet (fail)
      have B10 := hideIt (B9.out nq)
      clear B9
      go_wp2
      go_roundw
      case rel => exact ⟨t + 1, by go_num, by omega, B10.out⟩
      case measure => simp [RowKit.intOf]; omega
    · have hltI : ¬ (t : Int) < (l.length : Int) := by omega
      have B2 := hideIt HR.out
      clear HR
      go_wp2
      go_ret
      exact ⟨rfl, B2.out⟩
end Go.Proofs.YtilinemcmgjiiaaDoor
namespace Go.Proofs.YtilinemcmgjiiaaDoor
open Go.RowKit
set_option linter.all false
set_option maxHeartbeats 4000000 in
set_option maxRecDepth 100000 in
theorem sameAcc_is (a b : Option Addr) (c d : Nat) (l : List AmV) (cnt : Int) (w : World) (h1 : Ams w (.slice a l.length c) l) (h2 : Ams w (.slice b l.length d) l) : Calls Tryd.prog 60 #[.agg #[.slice a l.length c, .int .i64 cnt], .agg #[.slice b l.length d, .int .i64 cnt]] w fun e w' => e = .returned (.bool true) ∧ Below w.heap.size w w' := by
  obtain ⟨t1, t2, t3⟩ := two_heap w (.cells #[.slice a l.length c, .int .i64 cnt] 75) (.cells #[.slice b l.length d, .int .i64 cnt] 75)
  have T1 := hideIt t1
  have T2 := hideIt t2
  have HB := hideIt (below2 w (.cells #[.slice a l.length c, .int .i64 cnt] 75) (.cells #[.slice b l.length d, .int .i64 cnt] 75))
  have HS := hideIt (fun W (hW : Below w.heap.size w W) => sameAm_is a b c d l W (h1.keep hW) (h2.keep hW))
  clear t1 t2 t3 h1 h2
  go_enter Tryd.func60, Tryd.ntmps60
  go_upto_region 1 with fail
  generalize (w.alloc (.cells #[.slice a l.length c, .int .i64 cnt] 75)).alloc (.cells #[.slice b l.length d, .int .i64 cnt] 75) = W0 at *
  obtain ⟨⟨x0, x1⟩, xf, xz⟩ := at2 T1.out
  obtain ⟨⟨y0, y1⟩, yf, yz⟩ := at2 T2.out
  go_wp2_with fail
  refine (HS.out _ HB.out).mono ?_
  rintro e w1 ⟨rfl, hb⟩
  dsimp only
  have B1 := hideIt (below_via HB.out hb)
  clear hb
  go_wp2
  go_ret
  exact ⟨rfl, B1.out⟩
set_option maxHeartbeats 4000000 in
set_option maxRecDepth 100000 in
theorem sameAns_is (code num : Int) (a b a2 b2 : Option Addr) (c d c2 d2 : Nat) (l : List AmV) (m : List FilV) (w : World) (h1 : Ams w (.slice a l.length c) l) (h2 : Ams w (.slice b l.length d) l) (k1 : Fls w (.slice a2 m.length c2) m) (k2 : Fls w (.slice b2 m.length d2) m) : Calls Tryd.prog 46 #[.agg #[.int .i64 code, .int .i64 num, .slice a l.length c, .slice a2 m.length c2], .agg #[.int .i64 code, .int .i64 num, .slice b l.length d, .slice b2 m.length d2]] w fun e w' => e = .returned (.bool true) ∧ Below w.heap.size w w' := by
  obtain ⟨t1, t2, t3⟩ := two_heap w (.cells #[.int .i64 code, .int .i64 num, .slice a l.length c, .slice a2 m.length c2] 44) (.cells #[.int .i64 code, .int .i64 num, .slice b l.length d, .slice b2 m.length d2] 44)
  have T1 := hideIt t1
  have T2 := hideIt t2
  have HB := hideIt (below2 w (.cells #[.int .i64 code, .int .i64 num, .slice a l.length c, .slice a2 m.length c2] 44) (.cells #[.int .i64 code, .int .i64 num, .slice b l.length d, .slice b2 m.length d2] 44))
  have HS := hideIt (fun W (hW : Below w.heap.size w W) => sameAm_is a b c d l W (h1.keep hW) (h2.keep hW))
  have HF := hideIt (fun W (hW : Below w.heap.size w W) => sameFil_is a2 b2 c2 d2 m W (k1.keep hW) (k2.keep hW))
  clear t1 t2 t3 h1 h2 k1 k2
  go_enter Tryd.func46, Tryd.ntmps46
  go_upto_region 1 with fail
  generalize (w.alloc (.cells #[.int .i64 code, .int .i64 num, .slice a l.length c, .slice a2 m.length c2] 44)).alloc (.cells #[.int .i64 code, .int .i64 num, .slice b l.length d, .slice b2 m.length d2] 44) = W0 at *
  have X1 : Hid (∀ W, Below W0.heap.size W0 W → W.cell? ⟨w.heap.size, 0, none⟩ = some (.int .i64 code) ∧ W.cell? ⟨w.heap.size, 1, none⟩ = some (.int .i64 num) ∧ W.cell? ⟨w.heap.size, 2, none⟩ = some (.slice a l.length c) ∧ W.cell? ⟨w.heap.size, 3, none⟩ = some (.slice a2 m.length c2) ∧ W.cell? ⟨w.heap.size + 1, 0, none⟩ = some (.int .i64 code) ∧ W.cell? ⟨w.heap.size + 1, 1, none⟩ = some (.int .i64 num) ∧ W.cell? ⟨w.heap.size + 1, 2, none⟩ = some (.slice b l.length d) ∧ W.cell? ⟨w.heap.size + 1, 3, none⟩ = some (.slice b2 m.length d2) ∧ w.heap.size < W.heap.size ∧ w.heap.size + 1 < W.heap.size) := fun W hW => by
    have q1 := blkK T1.out hW
    have q2 := blkK T2.out hW
    exact ⟨by rw [cell_at q1]; rfl, by rw [cell_at q1]; rfl, by rw [cell_at q1]; rfl, by rw [cell_at q1]; rfl, by rw [cell_at q2]; rfl, by rw [cell_at q2]; rfl, by rw [cell_at q2]; rfl, by rw [cell_at q2]; rfl, (Array.getElem?_eq_some_iff.1 q1).1, (Array.getElem?_eq_some_iff.1 q2).1⟩
  obtain ⟨x0, x1, x2, x3, y0, y1, y2, y3, z0, z1⟩ := X1.out W0 (Below.refl _ _)
  go_wp2_with fail
  refine (HS.out _ HB.out).mono ?_
  rintro e w1 ⟨rfl, hb⟩
  dsimp only
  have B1 := hideIt (below_via HB.out hb)
  clear x0 x1 x2 x3 y0 y1 y2 y3 z0 z1
  obtain ⟨x0, x1, x2, x3, y0, y1, y2, y3, z0, z1⟩ := X1.out w1 hb
  clear hb
  go_wp2_with fail
  refine (HF.out _ B1.out).mono ?_
  rintro e w2 ⟨rfl, hb⟩
  dsimp only
  have B2 := hideIt (below_via B1.out hb)
  clear hb
  go_wp2
  go_ret
  exact ⟨rfl, B2.out⟩
set_option maxHeartbeats 8000000 in
set_option maxRecDepth 100000 in
theorem sameLan_is (call : Bool) (next : Int) (ba aa oa ba2 aa2 oa2 : Option Addr) (bc ac oc bc2 ac2 oc2 : Nat) (bids asks : List OrdV) (owed : List OwdV) (w : World) (b1 : Ords w (.slice ba bids.length bc) bids) (b2 : Ords w (.slice ba2 bids.length bc2) bids) (a1 : Ords w (.slice aa asks.length ac) asks) (a2 : Ords w (.slice aa2 asks.length ac2) asks) (o1 : Owds w (.slice oa owed.length oc) owed) (o2 : Owds w (.slice oa2 owed.length oc2) owed) : Calls Tryd.prog 61 #[.agg #[.bool call, .int .i64 next, .slice ba bids.length bc, .slice aa asks.length ac, .slice oa owed.length oc], .agg #[.bool call, .int .i64 next, .slice ba2 bids.length bc2, .slice aa2 asks.length ac2, .slice oa2 owed.length oc2]] w fun e w' => e = .returned (.bool true) ∧ Below w.heap.size w w' := by
  obtain ⟨t1, t2, t3⟩ := two_heap w (.cells #[.bool call, .int .i64 next, .slice ba bids.length bc, .slice aa asks.length ac, .slice oa owed.length oc] 79) (.cells #[.bool call, .int .i64 next, .slice ba2 bids.length bc2, .slice aa2 asks.length ac2, .slice oa2 owed.length oc2] 79)
  have T1 := hideIt t1
  have T2 := hideIt t2
  have HB := hideIt (below2 w (.cells #[.bool call, .int .i64 next, .slice ba bids.length bc, .slice aa asks.length ac, .slice oa owed.length oc] 79) (.cells #[.bool call, .int .i64 next, .slice ba2 bids.length bc2, .slice aa2 asks.length ac2, .slice oa2 owed.length oc2] 79))
  have h8 := o1.1
  have HS := hideIt (fun W (hW : Below w.heap.size w W) => sameOrd_is ba ba2 bc bc2 bids W (b1.keep hW) (b2.keep hW))
  have HF := hideIt (fun W (hW : Below w.heap.size w W) => sameOrd_is aa aa2 ac ac2 asks W (a1.keep hW) (a2.keep hW))
  have H1 := hideIt o1
  have H2 := hideIt o2
  clear t1 t2 t3 b1 b2 a1 a2 o1 o2
  go_enter Tryd.func61, Tryd.ntmps61
  go_upto_region 1 with fail
  generalize (w.alloc (.cells #[.bool call, .int .i64 next, .slice ba bids.length bc, .slice aa asks.length ac, .slice oa owed.length oc] 79)).alloc (.cells #[.bool call, .int .i64 next, .slice ba2 bids.length bc2, .slice aa2 asks.length ac2, .slice oa2 owed.length oc2] 79) = W0 at *
  have X1 : Hid (∀ W, Below W0.heap.size W0 W → W.cell? ⟨w.heap.size, 0, none⟩ = some (.bool call) ∧ W.cell? ⟨w.heap.size, 1, none⟩ = some (.int .i64 next) ∧ W.cell? ⟨w.heap.size, 2, none⟩ = some (.slice ba bids.length bc) ∧ W.cell? ⟨w.heap.size, 3, none⟩ = some (.slice aa asks.length ac) ∧ W.cell? ⟨w.heap.size, 4, none⟩ = some (.slice oa owed.length oc) ∧ W.cell? ⟨w.heap.size + 1, 0, none⟩ = some (.bool call) ∧ W.cell? ⟨w.heap.size + 1, 1, none⟩ = some (.int .i64 next) ∧ W.cell? ⟨w.heap.size + 1, 2, none⟩ = some (.slice ba2 bids.length bc2) ∧ W.cell? ⟨w.heap.size + 1, 3, none⟩ = some (.slice aa2 asks.length ac2) ∧ W.cell? ⟨w.heap.size + 1, 4, none⟩ = some (.slice oa2 owed.length oc2) ∧ w.heap.size < W.heap.size ∧ w.heap.size + 1 < W.heap.size) := fun W hW => by
    have q1 := blkK T1.out hW
    have q2 := blkK T2.out hW
    exact ⟨by rw [cell_at q1]; rfl, by rw [cell_at q1]; rfl, by rw [cell_at q1]; rfl, by rw [cell_at q1]; rfl, by rw [cell_at q1]; rfl, by rw [cell_at q2]; rfl, by rw [cell_at q2]; rfl, by rw [cell_at q2]; rfl, by rw [cell_at q2]; rfl, by rw [cell_at q2]; rfl, (Array.getElem?_eq_some_iff.1 q1).1, (Array.getElem?_eq_some_iff.1 q2).1⟩
  obtain ⟨x0, x1, x2, x3, x4, y0, y1, y2, y3, y4, z0, z1⟩ := X1.out W0 (Below.refl _ _)
  go_wp2_with fail
  refine (HS.out _ HB.out).mono ?_
  rintro e w1 ⟨rfl, hb⟩
  dsimp only
  have B1 := hideIt (below_via HB.out hb)
  have C1 := hideIt hb
  clear x0 x1 x2 x3 x4 y0 y1 y2 y3 y4 z0 z1 hb
  obtain ⟨x0, x1, x2, x3, x4, y0, y1, y2, y3, y4, z0, z1⟩ := X1.out w1 C1.out
  go_wp2_with fail
  refine (HF.out _ B1.out).mono ?_
  rintro e w2 ⟨rfl, hb⟩
  dsimp only
  have B2 := hideIt (below_via B1.out hb)
  have C2 := hideIt (below_via C1.out hb)
  clear x0 x1 x2 x3 x4 y0 y1 y2 y3 y4 z0 z1 hb B1 C1
  obtain ⟨x0, x1, x2, x3, x4, y0, y1, y2, y3, y4, z0, z1⟩ := X1.out w2 C2.out
  go_upto_region 4 with fail
  clear x0 x1 x2 x3 x4 y0 y1 y2 y3 y4 z0 z1
  go_loopw [5] (fun x wr => ∃ t : Nat, x = .int .i64 t ∧ t ≤ owed.length ∧ Hid (Below w2.heap.size w2 wr)) (fun x _ => owed.length - (RowKit.intOf x).toNat)
  case atStart => exact ⟨0, rfl, Nat.zero_le _, Below.refl _ _⟩
  case round =>
    obtain ⟨t, rfl, ht, HR⟩ := hrel
    obtain ⟨x0, x1, x2, x3, x4, y0, y1, y2, y3, y4, z0, z1⟩ := X1.out wr (below_via C2.out HR.out)
    by_cases hlt : t < owed.length
    · have hltI : (t : Int) < (owed.length : Int) := by omega
      have ht0 : (0 : Int) ≤ (t : Int) := by omega
      have hwt : IntKind.i64.wrap ((t : Int) + 1) = ((t + 1 : Nat) : Int) := by rw [IntKind.wrap_i64]; omega
      obtain ⟨ab, ao, rfl, hal, hac⟩ := SGot.cellAt owdK H1.out hlt
      obtain ⟨bb, bo, rfl, hbl, hbc⟩ := SGot.cellAt owdK H2.out hlt
      have hbw := below_via B2.out HR.out
      have ha := hac wr hbw
      have hb := hbc wr hbw
      have haz : ab < wr.heap.size := Nat.lt_of_lt_of_le hal hbw.size
      have hbz : bb < wr.heap.size := Nat.lt_of_lt_of_le hbl hbw.size
      clear hac hbc hbw
      generalize owed[t] = u at *
      obtain ⟨u1, u2, u3⟩ := u
      have a0 : wr.cell? ⟨ab, ao + t * 3, none⟩ = some (.int .i64 u1) := ha 0 _ rfl
      have a1 : wr.cell? ⟨ab, ao + t * 3 + 1, none⟩ = some (.int .i64 u2) := ha 1 _ rfl
      have a2 : wr.cell? ⟨ab, ao + t * 3 + 2, none⟩ = some (.int .i64 u3) := ha 2 _ rfl
      have b0 : wr.cell? ⟨bb, bo + t * 3, none⟩ = some (.int .i64 u1) := hb 0 _ rfl
      have b1 : wr.cell? ⟨bb, bo + t * 3 + 1, none⟩ = some (.int .i64 u2) := hb 1 _ rfl
      have b2 : wr.cell? ⟨bb, bo + t * 3 + 2, none⟩ = some (.int .i64 u3) := hb 2 _ rfl
      have hqq := fun W => neqOwd u1 u2 u3 W
      clear ha hb
      have B9 := hideIt (fun m => below_drewN HR.out m)
      clear HR
      go_upto_region 6 with fail
      go_quiet (fail)
      have B10 := hideIt (B9.out nq)
      clear B9
      go_wp2
      go_roundw
      case rel => exact ⟨t + 1, by go_num, by omega, B10.out⟩
      case measure => simp [RowKit.intOf]; omega
    · have hltI : ¬ (t : Int) < (owed.length : Int) := by omega
      have B3 := hideIt (below_via B2.out HR.out)
      clear HR
      go_wp2
      go_ret
      exact ⟨rfl, B3.out⟩
set_option maxHeartbeats 16000000 in
set_option maxRecDepth 100000 in
theorem sameCel_is (a b : Option Addr) (c d : Nat) (l m : List CelX) (w : World) (hm : l.map CelX.v = m.map CelX.v) (h1 : Cels w (.slice a l.length c) l) (h2 : Cels w (.slice b m.length d) m) : Calls Tryd.prog 45 #[.slice a l.length c, .slice b m.length d] w fun e w' => e = .returned (.bool true) ∧ Below w.heap.size w w' := by
  have h8 := h1.row.1
  have hlen : m.length = l.length := by have := congrArg List.length hm; simpa using this.symm
  have HV : Hid (∀ t (h : t < l.length) (h' : t < m.length), l[t].v = m[t].v) := fun t h h' => by
    have := congrArg (fun x : List CelV => x[t]?) hm
    simpa [h, h'] using this
  have H1 := hideIt h1
  have H2 := hideIt h2
  have HL := hideIt hlen
  clear h1 h2 hm
  rw [hlen]
  clear hlen
  go_enter Tryd.func45, Tryd.ntmps45
  go_upto_region 4 with fail
  go_loopw [5] (fun x wr => ∃ t : Nat, x = .int .i64 t ∧ t ≤ l.length ∧ Hid (Below w.heap.size w wr)) (fun x _ => l.length - (RowKit.intOf x).toNat)
  case atStart => exact ⟨0, rfl, Nat.zero_le _, Below.refl _ _⟩
  case round =>
    obtain ⟨t, rfl, ht, HR⟩ := hrel
    by_cases hlt : t < l.length
    · have hltI : (t : Int) < (l.length : Int) := by omega
      have ht0 : (0 : Int) ≤ (t : Int) := by omega
      have hwt : IntKind.i64.wrap ((t : Int) + 1) = ((t + 1 : Nat) : Int) := by rw [IntKind.wrap_i64]; omega
      have hltm : t < m.length := by have := HL.out; omega
      obtain ⟨ab, ao, rfl, hal, hac⟩ := SGot.cellAt celK H1.out.row hlt
      obtain ⟨bb, bo, rfl, hbl, hbc⟩ := SGot.cellAt celK H2.out.row hltm
      have e1 := HV.out t hlt hltm
      have A1 := H1.out.at_ _ (List.getElem_mem hlt)
      have A2 := H2.out.at_ _ (List.getElem_mem hltm)
      generalize l[t] = x at *
      generalize m[t] = y at *
      obtain ⟨⟨k, n, ver, fr, cnt, call, next, bids, asks, owed⟩, fa, fc, ba, bc, aa, ac, oa, oc⟩ := x
      obtain ⟨yv, vfa, vfc, vba, vbc, vaa, vac, voa, voc⟩ := y
      dsimp only at e1
      subst e1
      have HC : Hid (∀ W, Below w.heap.size w W → W.cell? ⟨ab, ao + t * 10, none⟩ = some (.int .i64 k) ∧ W.cell? ⟨ab, ao + t * 10 + 1, none⟩ = some (.int .i64 n) ∧ W.cell? ⟨ab, ao + t * 10 + 2, none⟩ = some (.int .i64 ver) ∧ W.cell? ⟨ab, ao + t * 10 + 3, none⟩ = some (.slice fa fr.length fc) ∧ W.cell? ⟨ab, ao + t * 10 + 4, none⟩ = some (.int .i64 cnt) ∧ W.cell? ⟨ab, ao + t * 10 + 5, none⟩ = some (.bool call) ∧ W.cell? ⟨ab, ao + t * 10 + 6, none⟩ = some (.int .i64 next) ∧ W.cell? ⟨ab, ao + t * 10 + 7, none⟩ = some (.slice ba bids.length bc) ∧ W.cell? ⟨ab, ao + t * 10 + 8, none⟩ = some (.slice aa asks.length ac) ∧ W.cell? ⟨ab, ao + t * 10 + 9, none⟩ = some (.slice oa owed.length oc) ∧ W.cell? ⟨bb, bo + t * 10, none⟩ = some (.int .i64 k) ∧ W.cell? ⟨bb, bo + t * 10 + 1, none⟩ = some (.int .i64 n) ∧ W.cell? ⟨bb, bo + t * 10 + 2, none⟩ = some (.int .i64 ver) ∧ W.cell? ⟨bb, bo + t * 10 + 3, none⟩ = some (.slice vfa fr.length vfc) ∧ W.cell? ⟨bb, bo + t * 10 + 4, none⟩ = some (.int .i64 cnt) ∧ W.cell? ⟨bb, bo + t * 10 + 5, none⟩ = some (.bool call) ∧ W.cell? ⟨bb, bo + t * 10 + 6, none⟩ = some (.int .i64 next) ∧ W.cell? ⟨bb, bo + t * 10 + 7, none⟩ = some (.slice vba bids.length vbc) ∧ W.cell? ⟨bb, bo + t * 10 + 8, none⟩ = some (.slice vaa asks.length vac) ∧ W.cell? ⟨bb, bo + t * 10 + 9, none⟩ = some (.slice voa owed.length voc) ∧ ab < W.heap.size ∧ bb < W.heap.size) := fun W hW => ⟨hac W hW 0 _ rfl, hac W hW 1 _ rfl, hac W hW 2 _ rfl, hac W hW 3 _ rfl, hac W hW 4 _ rfl, hac W hW 5 _ rfl, hac W hW 6 _ rfl, hac W hW 7 _ rfl, hac W hW 8 _ rfl, hac W hW 9 _ rfl, hbc W hW 0 _ rfl, hbc W hW 1 _ rfl, hbc W hW 2 _ rfl, hbc W hW 3 _ rfl, hbc W hW 4 _ rfl, hbc W hW 5 _ rfl, hbc W hW 6 _ rfl, hbc W hW 7 _ rfl, hbc W hW 8 _ rfl, hbc W hW 9 _ rfl, Nat.lt_of_lt_of_le hal hW.size, Nat.lt_of_lt_of_le hbl hW.size⟩
      have HS := hideIt (fun W (hW : Below w.heap.size w W) => sameAcc_is fa vfa fc vfc fr cnt W (A1.f.keep hW) (A2.f.keep hW))
      have HN := hideIt (fun W (hW : Below w.heap.size w W) => sameLan_is call next ba aa oa vba vaa voa bc ac oc vbc vac voc bids asks owed W (A1.b.keep hW) (A2.b.keep hW) (A1.a.keep hW) (A2.a.keep hW) (A1.o.keep hW) (A2.o.keep hW))
      have hqq := fun W => neqKey k n W
      clear hac hbc A1 A2 hal hbl
      go_upto_region 6 with fail
      refine wp_region_held_drew (S := fun W => Below w.heap.size w W) (by kernel_rfl) HR.out.drew (fun hHeld => ?_)
      generalize wr.drew = WD at *
      refine wpAnyH_take (i := 0) (oi := ⟨some 17, _, _, _, _, _⟩) (v := ?_) rfl (by kernel_rfl) (by kernel_rfl) (by kernel_rfl) (fun _ _ _ h => h) (Or.inl ⟨by rfl, ?_⟩) (by assumption) ?_
      rotate_left
      · intro w5 hSw
        obtain ⟨x0, x1, x2, x3, x4, x5, x6, x7, x8, x9, y0, y1, y2, y3, y4, y5, y6, y7, y8, y9, z0, z1⟩ := HC.out w5 hSw
        go_simp
        (try with_reducible rfl)
      try simp only [Act.put, List.setIfInBounds_toArray, List.set_cons_zero, List.set_cons_succ]
      refine wpAnyH_take (i := 1) (oi := ⟨some 18, _, _, _, _, _⟩) (v := ?_) rfl (by kernel_rfl) (by kernel_rfl) (by kernel_rfl) (fun _ _ _ h => h) (Or.inl ⟨by rfl, ?_⟩) (by assumption) ?_
      rotate_left
      · intro w5 hSw
        obtain ⟨x0, x1, x2, x3, x4, x5, x6, x7, x8, x9, y0, y1, y2, y3, y4, y5, y6, y7, y8, y9, z0, z1⟩ := HC.out w5 hSw
        go_simp
        (try with_reducible rfl)
      try simp only [Act.put, List.setIfInBounds_toArray, List.set_cons_zero, List.set_cons_succ]
      refine wpAnyH_take (i := 2) (oi := ⟨some 19, _, _, _, _, _⟩) (v := ?_) rfl (by kernel_rfl) (by kernel_rfl) (by kernel_rfl) (fun _ _ _ h => h) (Or.inl ⟨by rfl, ?_⟩) (by assumption) ?_
      rotate_left
      · intro w5 hSw
        obtain ⟨x0, x1, x2, x3, x4, x5, x6, x7, x8, x9, y0, y1, y2, y3, y4, y5, y6, y7, y8, y9, z0, z1⟩ := HC.out w5 hSw
        go_simp
        (try with_reducible rfl)
      try simp only [Act.put, List.setIfInBounds_toArray, List.set_cons_zero, List.set_cons_succ]
      refine wpAnyH_take (i := 3) (oi := ⟨some 20, _, _, _, _, _⟩) (v := ?_) rfl (by kernel_rfl) (by kernel_rfl) (by kernel_rfl) (fun _ _ _ h => h) (Or.inl ⟨by rfl, ?_⟩) (by assumption) ?_
      rotate_left
      · intro w5 hSw
        obtain ⟨x0, x1, x2, x3, x4, x5, x6, x7, x8, x9, y0, y1, y2, y3, y4, y5, y6, y7, y8, y9, z0, z1⟩ := HC.out w5 hSw
        go_simp
        (try with_reducible rfl)
      try simp only [Act.put, List.setIfInBounds_toArray, List.set_cons_zero, List.set_cons_succ]
      refine wpAnyH_take (i := 4) (oi := ⟨some 21, _, _, _, _, _⟩) (v := ?_) rfl (by kernel_rfl) (by kernel_rfl) (by kernel_rfl) (fun _ _ _ h => h) (Or.inl ⟨by rfl, ?_⟩) (by assumption) ?_
      rotate_left
      · intro w5 hSw
        obtain ⟨x0, x1, x2, x3, x4, x5, x6, x7, x8, x9, y0, y1, y2, y3, y4, y5, y6, y7, y8, y9, z0, z1⟩ := HC.out w5 hSw
        go_simp
        (try with_reducible rfl)
      try simp only [Act.put, List.setIfInBounds_toArray, List.set_cons_zero, List.set_cons_succ]
      refine wpAnyH_take (i := 5) (oi := ⟨some 22, _, _, _, _, _⟩) (v := ?_) rfl (by kernel_rfl) (by kernel_rfl) (by kernel_rfl) (fun _ _ _ h => h) (Or.inl ⟨by rfl, ?_⟩) (by assumption) ?_
      rotate_left
      · intro w5 hSw
        obtain ⟨x0, x1, x2, x3, x4, x5, x6, x7, x8, x9, y0, y1, y2, y3, y4, y5, y6, y7, y8, y9, z0, z1⟩ := HC.out w5 hSw
        go_simp
        (try with_reducible rfl)
      try simp only [Act.put, List.setIfInBounds_toArray, List.set_cons_zero, List.set_cons_succ]
      refine wpAnyH_take (i := 6) (oi := ⟨some 23, _, _, _, _, _⟩) (v := ?_) rfl (by kernel_rfl) (by kernel_rfl) (by kernel_rfl) (fun _ _ _ h => h) (Or.inl ⟨by rfl, ?_⟩) (by assumption) ?_
      rotate_left
      · intro w5 hSw
        obtain ⟨x0, x1, x2, x3, x4, x5, x6, x7, x8, x9, y0, y1, y2, y3, y4, y5, y6, y7, y8, y9, z0, z1⟩ := HC.out w5 hSw
        go_simp
        (try with_reducible rfl)
      try simp only [Act.put, List.setIfInBounds_toArray, List.set_cons_zero, List.set_cons_succ]
      refine wpAnyH_take (i := 7) (oi := ⟨some 24, _, _, _, _, _⟩) (v := ?_) rfl (by kernel_rfl) (by kernel_rfl) (by kernel_rfl) (fun _ _ _ h => h) (Or.inl ⟨by rfl, ?_⟩) (by assumption) ?_
      rotate_left
      · intro w5 hSw
        obtain ⟨x0, x1, x2, x3, x4, x5, x6, x7, x8, x9, y0, y1, y2, y3, y4, y5, y6, y7, y8, y9, z0, z1⟩ := HC.out w5 hSw
        go_simp
        (try with_reducible rfl)
      try simp only [Act.put, List.setIfInBounds_toArray, List.set_cons_zero, List.set_cons_succ]
      refine wpAnyH_take (i := 8) (oi := ⟨some 25, _, _, _, _, _⟩) (v := ?_) rfl (by kernel_rfl) (by kernel_rfl) (by kernel_rfl) (fun _ _ _ h => h) (Or.inl ⟨by rfl, ?_⟩) (by assumption) ?_
      rotate_left
      · intro w5 hSw
        obtain ⟨x0, x1, x2, x3, x4, x5, x6, x7, x8, x9, y0, y1, y2, y3, y4, y5, y6, y7, y8, y9, z0, z1⟩ := HC.out w5 hSw
        go_simp
        (try with_reducible rfl)
      try simp only [Act.put, List.setIfInBounds_toArray, List.set_cons_zero, List.set_cons_succ]
      refine wpAnyH_take (i := 9) (oi := ⟨some 26, _, _, _, _, _⟩) (v := ?_) rfl (by kernel_rfl) (by kernel_rfl) (by kernel_rfl) (fun _ _ _ h => h) (Or.inl ⟨by rfl, ?_⟩) (by assumption) ?_
      rotate_left
      · intro w5 hSw
        obtain ⟨x0, x1, x2, x3, x4, x5, x6, x7, x8, x9, y0, y1, y2, y3, y4, y5, y6, y7, y8, y9, z0, z1⟩ := HC.out w5 hSw
        go_simp
        (try with_reducible rfl)
      try simp only [Act.put, List.setIfInBounds_toArray, List.set_cons_zero, List.set_cons_succ]
      refine wpAnyH_take (i := 10) (oi := ⟨some 27, _, _, _, _, _⟩) (v := ?_) rfl (by kernel_rfl) (by kernel_rfl) (by kernel_rfl) (fun _ _ _ h => h) (Or.inl ⟨by rfl, ?_⟩) (by assumption) ?_
      rotate_left
      · intro w5 hSw
        obtain ⟨x0, x1, x2, x3, x4, x5, x6, x7, x8, x9, y0, y1, y2, y3, y4, y5, y6, y7, y8, y9, z0, z1⟩ := HC.out w5 hSw
        go_simp
        (try with_reducible rfl)
      try simp only [Act.put, List.setIfInBounds_toArray, List.set_cons_zero, List.set_cons_succ]
      refine wpAnyH_take (i := 11) (oi := ⟨some 28, _, _, _, _, _⟩) (v := ?_) rfl (by kernel_rfl) (by kernel_rfl) (by kernel_rfl) (fun _ _ _ h => h) (Or.inl ⟨by rfl, ?_⟩) (by assumption) ?_
      rotate_left
      · intro w5 hSw
        obtain ⟨x0, x1, x2, x3, x4, x5, x6, x7, x8, x9, y0, y1, y2, y3, y4, y5, y6, y7, y8, y9, z0, z1⟩ := HC.out w5 hSw
        go_simp
        (try with_reducible rfl)
      try simp only [Act.put, List.setIfInBounds_toArray, List.set_cons_zero, List.set_cons_succ]
      refine wpAnyH_take (i := 12) (oi := ⟨some 29, _, _, _, _, _⟩) (v := ?_) rfl (by kernel_rfl) (by kernel_rfl) (by kernel_rfl) (fun _ _ _ h => h) (Or.inl ⟨by rfl, ?_⟩) (by assumption) ?_
      rotate_left
      · intro w5 hSw
        obtain ⟨x0, x1, x2, x3, x4, x5, x6, x7, x8, x9, y0, y1, y2, y3, y4, y5, y6, y7, y8, y9, z0, z1⟩ := HC.out w5 hSw
        go_simp
        (try with_reducible rfl)
      try simp only [Act.put, List.setIfInBounds_toArray, List.set_cons_zero, List.set_cons_succ]
      refine wpAnyH_take (i := 13) (oi := ⟨some 30, _, _, _, _, _⟩) (v := ?_) rfl (by kernel_rfl) (by kernel_rfl) (by kernel_rfl) (fun _ _ _ h => h) (Or.inl ⟨by rfl, ?_⟩) (by assumption) ?_
      rotate_left
      · intro w5 hSw
        obtain ⟨x0, x1, x2, x3, x4, x5, x6, x7, x8, x9, y0, y1, y2, y3, y4, y5, y6, y7, y8, y9, z0, z1⟩ := HC.out w5 hSw
        go_simp
        (try with_reducible rfl)
      try simp only [Act.put, List.setIfInBounds_toArray, List.set_cons_zero, List.set_cons_succ]
      refine wpAnyH_take (i := 14) (oi := ⟨some 31, _, _, _, _, _⟩) (v := ?_) rfl (by kernel_rfl) (by kernel_rfl) (by kernel_rfl) (fun _ _ _ h => h) (Or.inl ⟨by rfl, ?_⟩) (by assumption) ?_
      rotate_left
      · intro w5 hSw
        obtain ⟨x0, x1, x2, x3, x4, x5, x6, x7, x8, x9, y0, y1, y2, y3, y4, y5, y6, y7, y8, y9, z0, z1⟩ := HC.out w5 hSw
        go_simp
        (try with_reducible rfl)
      try simp only [Act.put, List.setIfInBounds_toArray, List.set_cons_zero, List.set_cons_succ]
      refine wpAnyH_take (i := 15) (oi := ⟨some 32, _, _, _, _, _⟩) (v := ?_) rfl (by kernel_rfl) (by kernel_rfl) (by kernel_rfl) (fun _ _ _ h => h) (Or.inl ⟨by rfl, ?_⟩) (by assumption) ?_
      rotate_left
      · intro w5 hSw
        obtain ⟨x0, x1, x2, x3, x4, x5, x6, x7, x8, x9, y0, y1, y2, y3, y4, y5, y6, y7, y8, y9, z0, z1⟩ := HC.out w5 hSw
        go_simp
        (try with_reducible rfl)
      try simp only [Act.put, List.setIfInBounds_toArray, List.set_cons_zero, List.set_cons_succ]
      refine wpAnyH_take (i := 16) (oi := ⟨some 33, _, _, _, _, _⟩) (v := ?_) rfl (by kernel_rfl) (by kernel_rfl) (by kernel_rfl) (fun _ _ _ h => h) (Or.inl ⟨by rfl, ?_⟩) (by assumption) ?_
      rotate_left
      · intro w5 hSw
        obtain ⟨x0, x1, x2, x3, x4, x5, x6, x7, x8, x9, y0, y1, y2, y3, y4, y5, y6, y7, y8, y9, z0, z1⟩ := HC.out w5 hSw
        go_simp
        (try with_reducible rfl)
      try simp only [Act.put, List.setIfInBounds_toArray, List.set_cons_zero, List.set_cons_succ]
      refine wpAnyH_take (i := 17) (oi := ⟨some 34, _, _, _, _, _⟩) (v := ?_) rfl (by kernel_rfl) (by kernel_rfl) (by kernel_rfl) (fun _ _ _ h => h) (Or.inl ⟨by rfl, ?_⟩) (by assumption) ?_
      rotate_left
      · intro w5 hSw
        obtain ⟨x0, x1, x2, x3, x4, x5, x6, x7, x8, x9, y0, y1, y2, y3, y4, y5, y6, y7, y8, y9, z0, z1⟩ := HC.out w5 hSw
        go_simp
        (try with_reducible rfl)
      try simp only [Act.put, List.setIfInBounds_toArray, List.set_cons_zero, List.set_cons_succ]
      refine wpAnyH_take (i := 18) (oi := ⟨some 35, _, _, _, _, _⟩) (v := ?_) rfl (by kernel_rfl) (by kernel_rfl) (by kernel_rfl) (fun _ _ _ h => h) (Or.inl ⟨by rfl, ?_⟩) (by assumption) ?_
      rotate_left
      · intro w5 hSw
        obtain ⟨x0, x1, x2, x3, x4, x5, x6, x7, x8, x9, y0, y1, y2, y3, y4, y5, y6, y7, y8, y9, z0, z1⟩ := HC.out w5 hSw
        go_simp
        (try with_reducible rfl)
      try simp only [Act.put, List.setIfInBounds_toArray, List.set_cons_zero, List.set_cons_succ]
      refine wpAnyH_take (i := 19) (oi := ⟨some 36, _, _, _, _, _⟩) (v := ?_) rfl (by kernel_rfl) (by kernel_rfl) (by kernel_rfl) (fun _ _ _ h => h) (Or.inl ⟨by rfl, ?_⟩) (by assumption) ?_
      rotate_left
      · intro w5 hSw
        obtain ⟨x0, x1, x2, x3, x4, x5, x6, x7, x8, x9, y0, y1, y2, y3, y4, y5, y6, y7, y8, y9, z0, z1⟩ := HC.out w5 hSw
        go_simp
        (try with_reducible rfl)
      try simp only [Act.put, List.setIfInBounds_toArray, List.set_cons_zero, List.set_cons_succ]
      refine wpAnyH_take (i := 20) (oi := ⟨some 37, _, _, _, _, _⟩) (v := ?_) rfl (by kernel_rfl) (by kernel_rfl) (by kernel_rfl) (fun _ _ _ h => h) (Or.inl ⟨by rfl, ?_⟩) (by assumption) ?_
      rotate_left
      · intro w5 hSw
        obtain ⟨x0, x1, x2, x3, x4, x5, x6, x7, x8, x9, y0, y1, y2, y3, y4, y5, y6, y7, y8, y9, z0, z1⟩ := HC.out w5 hSw
        go_simp
        (try with_reducible rfl)
      try simp only [Act.put, List.setIfInBounds_toArray, List.set_cons_zero, List.set_cons_succ]
      refine wpAnyH_take (i := 21) (oi := ⟨some 38, _, _, _, _, _⟩) (v := ?_) rfl (by kernel_rfl) (by kernel_rfl) (by kernel_rfl) (fun _ _ _ h => h) (Or.inl ⟨by rfl, ?_⟩) (by assumption) ?_
      rotate_left
      · intro w5 hSw
        obtain ⟨x0, x1, x2, x3, x4, x5, x6, x7, x8, x9, y0, y1, y2, y3, y4, y5, y6, y7, y8, y9, z0, z1⟩ := HC.out w5 hSw
        go_simp
        (try with_reducible rfl)
      try simp only [Act.put, List.setIfInBounds_toArray, List.set_cons_zero, List.set_cons_succ]
      refine wpAnyH_take (i := 22) (oi := ⟨some 39, _, _, _, _, _⟩) (v := ?_) rfl (by kernel_rfl) (by kernel_rfl) (by kernel_rfl) (fun _ _ _ h => h) (Or.inl ⟨by rfl, ?_⟩) (by assumption) ?_
      rotate_left
      · intro w5 hSw
        obtain ⟨x0, x1, x2, x3, x4, x5, x6, x7, x8, x9, y0, y1, y2, y3, y4, y5, y6, y7, y8, y9, z0, z1⟩ := HC.out w5 hSw
        go_simp
        (try with_reducible rfl)
      try simp only [Act.put, List.setIfInBounds_toArray, List.set_cons_zero, List.set_cons_succ]
      refine wpAnyH_take (i := 23) (oi := ⟨some 40, _, _, _, _, _⟩) (v := ?_) rfl (by kernel_rfl) (by kernel_rfl) (by kernel_rfl) (fun _ _ _ h => h) (Or.inl ⟨by rfl, ?_⟩) (by assumption) ?_
      rotate_left
      · intro w5 hSw
        obtain ⟨x0, x1, x2, x3, x4, x5, x6, x7, x8, x9, y0, y1, y2, y3, y4, y5, y6, y7, y8, y9, z0, z1⟩ := HC.out w5 hSw
        go_simp
        (try with_reducible rfl)
      try simp only [Act.put, List.setIfInBounds_toArray, List.set_cons_zero, List.set_cons_succ]
      refine wpAnyH_take (i := 24) (oi := ⟨some 41, _, _, _, _, _⟩) (v := ?_) rfl (by kernel_rfl) (by kernel_rfl) (by kernel_rfl) (fun _ _ _ h => h) (Or.inl ⟨by rfl, ?_⟩) (by assumption) ?_
      rotate_left
      · intro w5 hSw
        obtain ⟨x0, x1, x2, x3, x4, x5, x6, x7, x8, x9, y0, y1, y2, y3, y4, y5, y6, y7, y8, y9, z0, z1⟩ := HC.out w5 hSw
        go_simp
        (try with_reducible rfl)
      try simp only [Act.put, List.setIfInBounds_toArray, List.set_cons_zero, List.set_cons_succ]
      refine wpAnyH_take (i := 25) (oi := ⟨some 42, _, _, _, _, _⟩) (v := ?_) rfl (by kernel_rfl) (by kernel_rfl) (by kernel_rfl) (fun _ _ _ h => h) (Or.inl ⟨by rfl, ?_⟩) (by assumption) ?_
      rotate_left
      · intro w5 hSw
        obtain ⟨x0, x1, x2, x3, x4, x5, x6, x7, x8, x9, y0, y1, y2, y3, y4, y5, y6, y7, y8, y9, z0, z1⟩ := HC.out w5 hSw
        go_simp
        (try with_reducible rfl)
      try simp only [Act.put, List.setIfInBounds_toArray, List.set_cons_zero, List.set_cons_succ]
      refine wpAnyH_take (i := 26) (oi := ⟨some 43, _, _, _, _, _⟩) (v := ?_) rfl (by kernel_rfl) (by kernel_rfl) (by kernel_rfl) (fun _ _ _ h => h) (Or.inl ⟨by rfl, ?_⟩) (by assumption) ?_
      rotate_left
      · intro w5 hSw
        obtain ⟨x0, x1, x2, x3, x4, x5, x6, x7, x8, x9, y0, y1, y2, y3, y4, y5, y6, y7, y8, y9, z0, z1⟩ := HC.out w5 hSw
        go_simp
        (try with_reducible rfl)
      try simp only [Act.put, List.setIfInBounds_toArray, List.set_cons_zero, List.set_cons_succ]
      refine wpAnyH_take (i := 27) (oi := ⟨some 44, _, _, _, _, _⟩) (v := ?_) rfl (by kernel_rfl) (by kernel_rfl) (by kernel_rfl) (fun _ _ _ h => h) (Or.inl ⟨by rfl, ?_⟩) (by assumption) ?_
      rotate_left
      · intro w5 hSw
        obtain ⟨x0, x1, x2, x3, x4, x5, x6, x7, x8, x9, y0, y1, y2, y3, y4, y5, y6, y7, y8, y9, z0, z1⟩ := HC.out w5 hSw
        go_simp
        (try with_reducible rfl)
      try simp only [Act.put, List.setIfInBounds_toArray, List.set_cons_zero, List.set_cons_succ]
      refine wpAnyH_take (i := 28) (oi := ⟨some 45, _, _, _, _, _⟩) (v := ?_) rfl (by kernel_rfl) (by kernel_rfl) (by kernel_rfl) (fun _ _ _ h => h) (Or.inl ⟨by rfl, ?_⟩) (by assumption) ?_
      rotate_left
      · intro w5 hSw
        obtain ⟨x0, x1, x2, x3, x4, x5, x6, x7, x8, x9, y0, y1, y2, y3, y4, y5, y6, y7, y8, y9, z0, z1⟩ := HC.out w5 hSw
        go_simp
        (try with_reducible rfl)
      try simp only [Act.put, List.setIfInBounds_toArray, List.set_cons_zero, List.set_cons_succ]
      refine wpAnyH_take (i := 29) (oi := ⟨some 46, _, _, _, _, _⟩) (v := ?_) rfl (by kernel_rfl) (by kernel_rfl) (by kernel_rfl) (fun _ _ _ h => h) (Or.inl ⟨by rfl, ?_⟩) (by assumption) ?_
      rotate_left
      · intro w5 hSw
        obtain ⟨x0, x1, x2, x3, x4, x5, x6, x7, x8, x9, y0, y1, y2, y3, y4, y5, y6, y7, y8, y9, z0, z1⟩ := HC.out w5 hSw
        go_simp
        (try with_reducible rfl)
      try simp only [Act.put, List.setIfInBounds_toArray, List.set_cons_zero, List.set_cons_succ]
      refine wpAnyH_take (i := 30) (oi := ⟨some 47, _, _, _, _, _⟩) (v := ?_) rfl (by kernel_rfl) (by kernel_rfl) (by kernel_rfl) (fun _ _ _ h => h) (Or.inl ⟨by rfl, ?_⟩) (by assumption) ?_
      rotate_left
      · intro w5 hSw
        obtain ⟨x0, x1, x2, x3, x4, x5, x6, x7, x8, x9, y0, y1, y2, y3, y4, y5, y6, y7, y8, y9, z0, z1⟩ := HC.out w5 hSw
        go_simp
        (try with_reducible rfl)
      try simp only [Act.put, List.setIfInBounds_toArray, List.set_cons_zero, List.set_cons_succ]
      refine wpAnyH_take (i := 31) (oi := ⟨some 48, _, _, _, _, _⟩) (v := ?_) rfl (by kernel_rfl) (by kernel_rfl) (by kernel_rfl) (fun _ _ _ h => h) (Or.inl ⟨by rfl, ?_⟩) (by assumption) ?_
      rotate_left
      · intro w5 hSw
        obtain ⟨x0, x1, x2, x3, x4, x5, x6, x7, x8, x9, y0, y1, y2, y3, y4, y5, y6, y7, y8, y9, z0, z1⟩ := HC.out w5 hSw
        go_simp
        (try with_reducible rfl)
      try simp only [Act.put, List.setIfInBounds_toArray, List.set_cons_zero, List.set_cons_succ]
      refine wpAnyH_take (i := 32) (oi := ⟨some 49, _, _, _, _, _⟩) (v := ?_) rfl (by kernel_rfl) (by kernel_rfl) (by kernel_rfl) (fun _ _ _ h => h) (Or.inl ⟨by rfl, ?_⟩) (by assumption) ?_
      rotate_left
      · intro w5 hSw
        obtain ⟨x0, x1, x2, x3, x4, x5, x6, x7, x8, x9, y0, y1, y2, y3, y4, y5, y6, y7, y8, y9, z0, z1⟩ := HC.out w5 hSw
        go_simp
        (try with_reducible rfl)
      try simp only [Act.put, List.setIfInBounds_toArray, List.set_cons_zero, List.set_cons_succ]
      refine wpAnyH_take (i := 33) (oi := ⟨some 50, _, _, _, _, _⟩) (v := ?_) rfl (by kernel_rfl) (by kernel_rfl) (by kernel_rfl) (fun _ _ _ h => h) (Or.inl ⟨by rfl, ?_⟩) (by assumption) ?_
      rotate_left
      · intro w5 hSw
        obtain ⟨x0, x1, x2, x3, x4, x5, x6, x7, x8, x9, y0, y1, y2, y3, y4, y5, y6, y7, y8, y9, z0, z1⟩ := HC.out w5 hSw
        go_simp
        (try with_reducible rfl)
      try simp only [Act.put, List.setIfInBounds_toArray, List.set_cons_zero, List.set_cons_succ]
      refine wpAnyH_take (i := 34) (oi := ⟨some 51, _, _, _, _, _⟩) (v := ?_) rfl (by kernel_rfl) (by kernel_rfl) (by kernel_rfl) (fun _ _ _ h => h) (Or.inl ⟨by rfl, ?_⟩) (by assumption) ?_
      rotate_left
      · intro w5 hSw
        obtain ⟨x0, x1, x2, x3, x4, x5, x6, x7, x8, x9, y0, y1, y2, y3, y4, y5, y6, y7, y8, y9, z0, z1⟩ := HC.out w5 hSw
        go_simp
        (try with_reducible rfl)
      try simp only [Act.put, List.setIfInBounds_toArray, List.set_cons_zero, List.set_cons_succ]
      refine wpAnyH_ready (rs := [35]) (by kernel_rfl) (by simp) ?_
      refine (AllReadyH.cons (o := ⟨some 52, _, _, _, _, _⟩) rfl (fun Kx hK => ?_) AllReadyH.nil)
      go_simp
      go_at_call 60
      refine (HS.out _ hHeld).mono ?_
      rintro e w6 ⟨rfl, hb⟩
      have hB := below_via hHeld hb
      clear hHeld
      have hHeld := hB
      refine hK.out _ _ hB (fun hHeld => ?_)
      clear hK Kx hb hB
      try simp only [Act.put, List.setIfInBounds_toArray, List.set_cons_zero, List.set_cons_succ]
      refine wpAnyH_take (i := 36) (oi := ⟨some 53, _, _, _, _, _⟩) (v := ?_) rfl (by kernel_rfl) (by kernel_rfl) (by kernel_rfl) (fun _ _ _ h => h) (Or.inl ⟨by rfl, ?_⟩) (by assumption) ?_
      rotate_left
      · intro w5 hSw
        obtain ⟨x0, x1, x2, x3, x4, x5, x6, x7, x8, x9, y0, y1, y2, y3, y4, y5, y6, y7, y8, y9, z0, z1⟩ := HC.out w5 hSw
        go_simp
        (try with_reducible rfl)
      try simp only [Act.put, List.setIfInBounds_toArray, List.set_cons_zero, List.set_cons_succ]
      refine wpAnyH_take (i := 37) (oi := ⟨some 54, _, _, _, _, _⟩) (v := ?_) rfl (by kernel_rfl) (by kernel_rfl) (by kernel_rfl) (fun _ _ _ h => h) (Or.inl ⟨by rfl, ?_⟩) (by assumption) ?_
      rotate_left
      · intro w5 hSw
        obtain ⟨x0, x1, x2, x3, x4, x5, x6, x7, x8, x9, y0, y1, y2, y3, y4, y5, y6, y7, y8, y9, z0, z1⟩ := HC.out w5 hSw
        go_simp
        (try with_reducible rfl)
      try simp only [Act.put, List.setIfInBounds_toArray, List.set_cons_zero, List.set_cons_succ]
      refine wpAnyH_take (i := 38) (oi := ⟨some 55, _, _, _, _, _⟩) (v := ?_) rfl (by kernel_rfl) (by kernel_rfl) (by kernel_rfl) (fun _ _ _ h => h) (Or.inl ⟨by rfl, ?_⟩) (by assumption) ?_
      rotate_left
      · intro w5 hSw
        obtain ⟨x0, x1, x2, x3, x4, x5, x6, x7, x8, x9, y0, y1, y2, y3, y4, y5, y6, y7, y8, y9, z0, z1⟩ := HC.out w5 hSw
        go_simp
        (try with_reducible rfl)
      try simp only [Act.put, List.setIfInBounds_toArray, List.set_cons_zero, List.set_cons_succ]
      refine wpAnyH_take (i := 39) (oi := ⟨some 56, _, _, _, _, _⟩) (v := ?_) rfl (by kernel_rfl) (by kernel_rfl) (by kernel_rfl) (fun _ _ _ h => h) (Or.inl ⟨by rfl, ?_⟩) (by assumption) ?_
      rotate_left
      · intro w5 hSw
        obtain ⟨x0, x1, x2, x3, x4, x5, x6, x7, x8, x9, y0, y1, y2, y3, y4, y5, y6, y7, y8, y9, z0, z1⟩ := HC.out w5 hSw
        go_simp
        (try with_reducible rfl)
      try simp only [Act.put, List.setIfInBounds_toArray, List.set_cons_zero, List.set_cons_succ]
      refine wpAnyH_take (i := 40) (oi := ⟨some 57, _, _, _, _, _⟩) (v := ?_) rfl (by kernel_rfl) (by kernel_rfl) (by kernel_rfl) (fun _ _ _ h => h) (Or.inl ⟨by rfl, ?_⟩) (by assumption) ?_
      rotate_left
      · intro w5 hSw
        obtain ⟨x0, x1, x2, x3, x4, x5, x6, x7, x8, x9, y0, y1, y2, y3, y4, y5, y6, y7, y8, y9, z0, z1⟩ := HC.out w5 hSw
        go_simp
        (try with_reducible rfl)
      try simp only [Act.put, List.setIfInBounds_toArray, List.set_cons_zero, List.set_cons_succ]
      refine wpAnyH_take (i := 41) (oi := ⟨some 58, _, _, _, _, _⟩) (v := ?_) rfl (by kernel_rfl) (by kernel_rfl) (by kernel_rfl) (fun _ _ _ h => h) (Or.inl ⟨by rfl, ?_⟩) (by assumption) ?_
      rotate_left
      · intro w5 hSw
        obtain ⟨x0, x1, x2, x3, x4, x5, x6, x7, x8, x9, y0, y1, y2, y3, y4, y5, y6, y7, y8, y9, z0, z1⟩ := HC.out w5 hSw
        go_simp
        (try with_reducible rfl)
      try simp only [Act.put, List.setIfInBounds_toArray, List.set_cons_zero, List.set_cons_succ]
      refine wpAnyH_take (i := 42) (oi := ⟨some 59, _, _, _, _, _⟩) (v := ?_) rfl (by kernel_rfl) (by kernel_rfl) (by kernel_rfl) (fun _ _ _ h => h) (Or.inl ⟨by rfl, ?_⟩) (by assumption) ?_
      rotate_left
      · intro w5 hSw
        obtain ⟨x0, x1, x2, x3, x4, x5, x6, x7, x8, x9, y0, y1, y2, y3, y4, y5, y6, y7, y8, y9, z0, z1⟩ := HC.out w5 hSw
        go_simp
        (try with_reducible rfl)
      try simp only [Act.put, List.setIfInBounds_toArray, List.set_cons_zero, List.set_cons_succ]
      refine wpAnyH_take (i := 43) (oi := ⟨some 60, _, _, _, _, _⟩) (v := ?_) rfl (by kernel_rfl) (by kernel_rfl) (by kernel_rfl) (fun _ _ _ h => h) (Or.inl ⟨by rfl, ?_⟩) (by assumption) ?_
      rotate_left
      · intro w5 hSw
        obtain ⟨x0, x1, x2, x3, x4, x5, x6, x7, x8, x9, y0, y1, y2, y3, y4, y5, y6, y7, y8, y9, z0, z1⟩ := HC.out w5 hSw
        go_simp
        (try with_reducible rfl)
      try simp only [Act.put, List.setIfInBounds_toArray, List.set_cons_zero, List.set_cons_succ]
      refine wpAnyH_take (i := 44) (oi := ⟨some 61, _, _, _, _, _⟩) (v := ?_) rfl (by kernel_rfl) (by kernel_rfl) (by kernel_rfl) (fun _ _ _ h => h) (Or.inl ⟨by rfl, ?_⟩) (by assumption) ?_
      rotate_left
      · intro w5 hSw
        obtain ⟨x0, x1, x2, x3, x4, x5, x6, x7, x8, x9, y0, y1, y2, y3, y4, y5, y6, y7, y8, y9, z0, z1⟩ := HC.out w5 hSw
        go_simp
        (try with_reducible rfl)
      try simp only [Act.put, List.setIfInBounds_toArray, List.set_cons_zero, List.set_cons_succ]
      refine wpAnyH_take (i := 45) (oi := ⟨some 62, _, _, _, _, _⟩) (v := ?_) rfl (by kernel_rfl) (by kernel_rfl) (by kernel_rfl) (fun _ _ _ h => h) (Or.inl ⟨by rfl, ?_⟩) (by assumption) ?_
      rotate_left
      · intro w5 hSw
        obtain ⟨x0, x1, x2, x3, x4, x5, x6, x7, x8, x9, y0, y1, y2, y3, y4, y5, y6, y7, y8, y9, z0, z1⟩ := HC.out w5 hSw
        go_simp
        (try with_reducible rfl)
      try simp only [Act.put, List.setIfInBounds_toArray, List.set_cons_zero, List.set_cons_succ]
      refine wpAnyH_take (i := 46) (oi := ⟨some 63, _, _, _, _, _⟩) (v := ?_) rfl (by kernel_rfl) (by kernel_rfl) (by kernel_rfl) (fun _ _ _ h => h) (Or.inl ⟨by rfl, ?_⟩) (by assumption) ?_
      rotate_left
      · intro w5 hSw
        obtain ⟨x0, x1, x2, x3, x4, x5, x6, x7, x8, x9, y0, y1, y2, y3, y4, y5, y6, y7, y8, y9, z0, z1⟩ := HC.out w5 hSw
        go_simp
        (try with_reducible rfl)
      try simp only [Act.put, List.setIfInBounds_toArray, List.set_cons_zero, List.set_cons_succ]
      refine wpAnyH_take (i := 47) (oi := ⟨some 64, _, _, _, _, _⟩) (v := ?_) rfl (by kernel_rfl) (by kernel_rfl) (by kernel_rfl) (fun _ _ _ h => h) (Or.inl ⟨by rfl, ?_⟩) (by assumption) ?_
      rotate_left
      · intro w5 hSw
        obtain ⟨x0, x1, x2, x3, x4, x5, x6, x7, x8, x9, y0, y1, y2, y3, y4, y5, y6, y7, y8, y9, z0, z1⟩ := HC.out w5 hSw
        go_simp
        (try with_reducible rfl)
      try simp only [Act.put, List.setIfInBounds_toArray, List.set_cons_zero, List.set_cons_succ]
      refine wpAnyH_take (i := 48) (oi := ⟨some 65, _, _, _, _, _⟩) (v := ?_) rfl (by kernel_rfl) (by kernel_rfl) (by kernel_rfl) (fun _ _ _ h => h) (Or.inl ⟨by rfl, ?_⟩) (by assumption) ?_
      rotate_left
      · intro w5 hSw
        obtain ⟨x0, x1, x2, x3, x4, x5, x6, x7, x8, x9, y0, y1, y2, y3, y4, y5, y6, y7, y8, y9, z0, z1⟩ := HC.out w5 hSw
        go_simp
        (try with_reducible rfl)
      try simp only [Act.put, List.setIfInBounds_toArray, List.set_cons_zero, List.set_cons_succ]
      refine wpAnyH_ready (rs := [49]) (by kernel_rfl) (by simp) ?_
      refine (AllReadyH.cons (o := ⟨some 66, _, _, _, _, _⟩) rfl (fun Kx hK => ?_) AllReadyH.nil)
      go_simp
      go_at_call 61
      refine (HN.out _ hHeld).mono ?_
      rintro e w7 ⟨rfl, hb⟩
      have hB := below_via hHeld hb
      clear hHeld
      have hHeld := hB
      refine hK.out _ _ hB (fun hHeld => ?_)
      clear hK Kx hb hB
      try simp only [Act.put, List.setIfInBounds_toArray, List.set_cons_zero, List.set_cons_succ]
      refine wpAnyH_take (i := 50) (oi := ⟨some 67, _, _, _, _, _⟩) (v := ?_) rfl (by kernel_rfl) (by kernel_rfl) (by kernel_rfl) (fun _ _ _ h => h) (Or.inl ⟨by rfl, ?_⟩) (by assumption) ?_
      rotate_left
      · intro w5 hSw
        obtain ⟨x0, x1, x2, x3, x4, x5, x6, x7, x8, x9, y0, y1, y2, y3, y4, y5, y6, y7, y8, y9, z0, z1⟩ := HC.out w5 hSw
        go_simp
        (try with_reducible rfl)
      try simp only [Act.put, List.setIfInBounds_toArray, List.set_cons_zero, List.set_cons_succ]
      refine wpAnyH_take (i := 51) (oi := ⟨some 68, _, _, _, _, _⟩) (v := ?_) rfl (by kernel_rfl) (by kernel_rfl) (by kernel_rfl) (fun _ _ _ h => h) (Or.inl ⟨by rfl, ?_⟩) (by assumption) ?_
      rotate_left
      · intro w5 hSw
        obtain ⟨x0, x1, x2, x3, x4, x5, x6, x7, x8, x9, y0, y1, y2, y3, y4, y5, y6, y7, y8, y9, z0, z1⟩ := HC.out w5 hSw
        go_simp
        (try with_reducible rfl)
      try simp only [Act.put, List.setIfInBounds_toArray, List.set_cons_zero, List.set_cons_succ]
      refine wpAnyH_done (by kernel_rfl) ?_ _
      have HB5 := hideIt hHeld
      (repeat clear hHeld)
      clear HC HS HN HR
      go_wp2
      go_roundw
      case rel => exact ⟨t + 1, by go_num, by omega, HB5.out⟩
      case measure => simp [RowKit.intOf]; omega
    · have hltI : ¬ (t : Int) < (l.length : Int) := by omega
      have B2 := hideIt HR.out
      clear HR
      go_wp2
      go_ret
      exact ⟨rfl, B2.out⟩
end Go.Proofs.YtilinemcmgjiiaaDoor
namespace Go.Proofs.YtilinemcmgjiiaaDoor
open Go.RowKit
set_option linter.all false
set_option maxHeartbeats 16000000 in
set_option maxRecDepth 100000 in
theorem sameTra_is (x y : TraX) (w : World) (hv : x.v = y.v) (hx : TraAt w x) (hy : TraAt w y) : Calls Tryd.prog 29 #[.agg (traE x).toArray, .agg (traE y).toArray] w fun e w' => e = .returned (.bool true) ∧ Below w.heap.size w w' := by
  obtain ⟨c, q, ⟨rk, ra, rl, rs, rd, rp, rn, ro, ⟨rkk, rkn⟩, rt⟩, ps, pa, pc, st, am, ma, mc, cx, ca, cc, ⟨⟨code, num, aam, fl⟩, aa, ac, fa, fc⟩⟩ := x
  obtain ⟨c', q', r', ps', pa', pc', st', am', ma', mc', cx', ca', cc', ⟨yv, aa', ac', fa', fc'⟩⟩ := y
  simp only [TraX.v, TraV.mk.injEq] at hv
  obtain ⟨rfl, rfl, rfl, rfl, rfl, rfl, hce, rfl⟩ := hv
  have HS := hideIt (fun W (hW : Below w.heap.size w W) => sameAm_is ma ma' mc mc' am W (hx.m.keep hW) (hy.m.keep hW))
  have HC := hideIt (fun W (hW : Below w.heap.size w W) => sameCel_is ca ca' cc cc' cx cx' W hce (hx.c.keep hW) (hy.c.keep hW))
  have HN := hideIt (fun W (hW : Below w.heap.size w W) => sameAns_is code num aa aa' fa fa' ac ac' fc fc' aam fl W (hx.x.a.keep hW) (hy.x.a.keep hW) (hx.x.f.keep hW) (hy.x.f.keep hW))
  have h8 := hx.p.1
  have H1 := hideIt hx.p
  have H2 := hideIt hy.p
  have hqt := fun W => neqTxs c q W
  have hqr := fun W => neqReq rk ra rl rs rd rp rn ro rkk rkn rt W
  clear hx hy hce
  simp only [traE, reqC, AnsX.am, AnsX.fl, List.cons_append, List.nil_append]
  obtain ⟨t1, t2, t3⟩ := two_heap w (.cells #[.int .i64 c, .int .i64 q, .int .i64 rk, .int .i64 ra, .int .i64 rl, .int .i64 rs, .int .i64 rd, .int .i64 rp, .int .i64 rn, .bool ro, .int .i64 rkk, .int .i64 rkn, .int .i64 rt, .slice pa ps.length pc, .int .i64 st, .slice ma am.length mc, .slice ca cx.length cc, .int .i64 code, .int .i64 num, .slice aa aam.length ac, .slice fa fl.length fc] 52) (.cells #[.int .i64 c, .int .i64 q, .int .i64 rk, .int .i64 ra, .int .i64 rl, .int .i64 rs, .int .i64 rd, .int .i64 rp, .int .i64 rn, .bool ro, .int .i64 rkk, .int .i64 rkn, .int .i64 rt, .slice pa' ps.length pc', .int .i64 st, .slice ma' am.length mc', .slice ca' cx'.length cc', .int .i64 code, .int .i64 num, .slice aa' aam.length ac', .slice fa' fl.length fc'] 52)
  have T1 := hideIt t1
  have T2 := hideIt t2
  have HB := hideIt (below2 w (.cells #[.int .i64 c, .int .i64 q, .int .i64 rk, .int .i64 ra, .int .i64 rl, .int .i64 rs, .int .i64 rd, .int .i64 rp, .int .i64 rn, .bool ro, .int .i64 rkk, .int .i64 rkn, .int .i64 rt, .slice pa ps.length pc, .int .i64 st, .slice ma am.length mc, .slice ca cx.length cc, .int .i64 code, .int .i64 num, .slice aa aam.length ac, .slice fa fl.length fc] 52) (.cells #[.int .i64 c, .int .i64 q, .int .i64 rk, .int .i64 ra, .int .i64 rl, .int .i64 rs, .int .i64 rd, .int .i64 rp, .int .i64 rn, .bool ro, .int .i64 rkk, .int .i64 rkn, .int .i64 rt, .slice pa' ps.length pc', .int .i64 st, .slice ma' am.length mc', .slice ca' cx'.length cc', .int .i64 code, .int .i64 num, .slice aa' aam.length ac', .slice fa' fl.length fc'] 52))
  clear t1 t2 t3
  go_enter Tryd.func29, Tryd.ntmps29
  go_upto_region 1 with fail
  generalize (w.alloc (.cells #[.int .i64 c, .int .i64 q, .int .i64 rk, .int .i64 ra, .int .i64 rl, .int .i64 rs, .int .i64 rd, .int .i64 rp, .int .i64 rn, .bool ro, .int .i64 rkk, .int .i64 rkn, .int .i64 rt, .slice pa ps.length pc, .int .i64 st, .slice ma am.length mc, .slice ca cx.length cc, .int .i64 code, .int .i64 num, .slice aa aam.length ac, .slice fa fl.length fc] 52)).alloc (.cells #[.int .i64 c, .int .i64 q, .int .i64 rk, .int .i64 ra, .int .i64 rl, .int .i64 rs, .int .i64 rd, .int .i64 rp, .int .i64 rn, .bool ro, .int .i64 rkk, .int .i64 rkn, .int .i64 rt, .slice pa' ps.length pc', .int .i64 st, .slice ma' am.length mc', .slice ca' cx'.length cc', .int .i64 code, .int .i64 num, .slice aa' aam.length ac', .slice fa' fl.length fc'] 52) = W0 at *
  obtain ⟨⟨x0, x1, x2, x3, x4, x5, x6, x7, x8, x9, x10, x11, x12, x13, x14, x15, x16, x17, x18, x19, x20⟩, xf, xz⟩ := at21 (blkK T1.out (Below.refl _ _))
  obtain ⟨⟨y0, y1, y2, y3, y4, y5, y6, y7, y8, y9, y10, y11, y12, y13, y14, y15, y16, y17, y18, y19, y20⟩, yf, yz⟩ := at21 (blkK T2.out (Below.refl _ _))
  go_wp2_with fail
  refine (HS.out _ HB.out).mono ?_
  rintro e w1 ⟨rfl, hb⟩
  dsimp only
  have C1 := hideIt hb
  have B1 := hideIt (below_via HB.out hb)
  clear x0 x1 x2 x3 x4 x5 x6 x7 x8 x9 x10 x11 x12 x13 x14 x15 x16 x17 x18 x19 x20 y0 y1 y2 y3 y4 y5 y6 y7 y8 y9 y10 y11 y12 y13 y14 y15 y16 y17 y18 y19 y20 xf xz yf yz
  clear hb HS
  obtain ⟨⟨x0, x1, x2, x3, x4, x5, x6, x7, x8, x9, x10, x11, x12, x13, x14, x15, x16, x17, x18, x19, x20⟩, xf, xz⟩ := at21 (blkK T1.out C1.out)
  obtain ⟨⟨y0, y1, y2, y3, y4, y5, y6, y7, y8, y9, y10, y11, y12, y13, y14, y15, y16, y17, y18, y19, y20⟩, yf, yz⟩ := at21 (blkK T2.out C1.out)
  go_wp2_with fail
  refine (HC.out _ B1.out).mono ?_
  rintro e w2 ⟨rfl, hb⟩
  dsimp only
  have C2 := hideIt (below_via C1.out hb)
  have B2 := hideIt (below_via B1.out hb)
  clear x0 x1 x2 x3 x4 x5 x6 x7 x8 x9 x10 x11 x12 x13 x14 x15 x16 x17 x18 x19 x20 y0 y1 y2 y3 y4 y5 y6 y7 y8 y9 y10 y11 y12 y13 y14 y15 y16 y17 y18 y19 y20 xf xz yf yz
  clear hb HC B1 C1
  obtain ⟨⟨x0, x1, x2, x3, x4, x5, x6, x7, x8, x9, x10, x11, x12, x13, x14, x15, x16, x17, x18, x19, x20⟩, xf, xz⟩ := at21 (blkK T1.out C2.out)
  obtain ⟨⟨y0, y1, y2, y3, y4, y5, y6, y7, y8, y9, y10, y11, y12, y13, y14, y15, y16, y17, y18, y19, y20⟩, yf, yz⟩ := at21 (blkK T2.out C2.out)
  go_wp2_with fail
  refine (HN.out _ B2.out).mono ?_
  rintro e w3 ⟨rfl, hb⟩
  dsimp only
  have C3 := hideIt (below_via C2.out hb)
  have B3 := hideIt (below_via B2.out hb)
  clear x0 x1 x2 x3 x4 x5 x6 x7 x8 x9 x10 x11 x12 x13 x14 x15 x16 x17 x18 x19 x20 y0 y1 y2 y3 y4 y5 y6 y7 y8 y9 y10 y11 y12 y13 y14 y15 y16 y17 y18 y19 y20 xf xz yf yz
  clear hb HN B2 C2 hqr hqt
  go_upto_region 4 with fail
  go_loopw [5] (fun x wr => ∃ t : Nat, x = .int .i64 t ∧ t ≤ ps.length ∧ Hid (Below w3.heap.size w3 wr)) (fun x _ => ps.length - (RowKit.intOf x).toNat)
  case atStart => exact ⟨0, rfl, Nat.zero_le _, Below.refl _ _⟩
  case round =>
    obtain ⟨t, rfl, ht, HR⟩ := hrel
    have x13 : wr.cell? ⟨w.heap.size, 13, none⟩ = some (.slice pa ps.length pc) := by rw [cell_at (blkK T1.out (below_via C3.out HR.out))]; rfl
    have y13 : wr.cell? ⟨w.heap.size + 1, 13, none⟩ = some (.slice pa' ps.length pc') := by rw [cell_at (blkK T2.out (below_via C3.out HR.out))]; rfl
    have xz : w.heap.size < wr.heap.size := (Array.getElem?_eq_some_iff.1 (blkK T1.out (below_via C3.out HR.out))).1
    have yz : w.heap.size + 1 < wr.heap.size := (Array.getElem?_eq_some_iff.1 (blkK T2.out (below_via C3.out HR.out))).1
    by_cases hlt : t < ps.length
    · have hltI : (t : Int) < (ps.length : Int) := by omega
      have ht0 : (0 : Int) ≤ (t : Int) := by omega
      have hwt : IntKind.i64.wrap ((t : Int) + 1) = ((t + 1 : Nat) : Int) := by rw [IntKind.wrap_i64]; omega
      obtain ⟨ab, ao, rfl, hal, hac⟩ := SGot.cellAt peeK H1.out hlt
      obtain ⟨bb, bo, rfl, hbl, hbc⟩ := SGot.cellAt peeK H2.out hlt
      have hbw := below_via B3.out HR.out
      have ha := hac wr hbw
      have hb := hbc wr hbw
      have haz : ab < wr.heap.size := Nat.lt_of_lt_of_le hal hbw.size
      have hbz : bb < wr.heap.size := Nat.lt_of_lt_of_le hbl hbw.size
      clear hac hbc hbw
      generalize ps[t] = u at *
      obtain ⟨u1, u2, u3, u4, u5⟩ := u
      have a0 : wr.cell? ⟨ab, ao + t * 5, none⟩ = some (.int .i64 u1) := ha 0 _ rfl
      have b0 : wr.cell? ⟨bb, bo + t * 5, none⟩ = some (.int .i64 u1) := hb 0 _ rfl
      have a1 : wr.cell? ⟨ab, ao + t * 5 + 1, none⟩ = some (.int .i64 u2) := ha 1 _ rfl
      have b1 : wr.cell? ⟨bb, bo + t * 5 + 1, none⟩ = some (.int .i64 u2) := hb 1 _ rfl
      have a2 : wr.cell? ⟨ab, ao + t * 5 + 2, none⟩ = some (.int .i64 u3) := ha 2 _ rfl
      have b2 : wr.cell? ⟨bb, bo + t * 5 + 2, none⟩ = some (.int .i64 u3) := hb 2 _ rfl
      have a3 : wr.cell? ⟨ab, ao + t * 5 + 3, none⟩ = some (.bool u4) := ha 3 _ rfl
      have b3 : wr.cell? ⟨bb, bo + t * 5 + 3, none⟩ = some (.bool u4) := hb 3 _ rfl
      have a4 : wr.cell? ⟨ab, ao + t * 5 + 4, none⟩ = some (.bool u5) := ha 4 _ rfl
      have b4 : wr.cell? ⟨bb, bo + t * 5 + 4, none⟩ = some (.bool u5) := hb 4 _ rfl
      have hqq := fun W => neqPee u1 u2 u3 u4 u5 W
      clear ha hb
      have B9 := hideIt (fun m => below_drewN HR.out m)
      clear HR
      go_upto_region 6 with fail
      go_quiet (fail)
      have B10 := hideIt (B9.out nq)
      clear B9
      go_wp2
      go_roundw
      case rel => exact ⟨t + 1, by go_num, by omega, B10.out⟩
      case measure => simp [RowKit.intOf]; omega
    · have hltI : ¬ (t : Int) < (ps.length : Int) := by omega
      have B4 := hideIt (below_via B3.out HR.out)
      clear HR
      go_wp2
      go_ret
      exact ⟨rfl, B4.out⟩
set_option maxHeartbeats 8000000 in
set_option maxRecDepth 100000 in
theorem sameCo_is (g : Int) (a b : Option Addr) (c d : Nat) (l m : List TraX) (w : World) (hm : l.map TraX.v = m.map TraX.v) (h1 : Trs w (.slice a l.length c) l) (h2 : Trs w (.slice b m.length d) m) : Calls Tryd.prog 15 #[.agg #[.int .i64 g, .slice a l.length c], .agg #[.int .i64 g, .slice b m.length d]] w fun e w' => e = .returned (.bool true) ∧ Below w.heap.size w w' := by
  have h8 := h1.row.1
  have hlen : m.length = l.length := by have := congrArg List.length hm; simpa using this.symm
  have HV : Hid (∀ t (h : t < l.length) (h' : t < m.length), l[t].v = m[t].v) := fun t h h' => by
    have := congrArg (fun x : List TraV => x[t]?) hm
    simpa [h, h'] using this
  have H1 := hideIt h1
  have H2 := hideIt h2
  have HL := hideIt hlen
  clear h1 h2 hm hlen
  obtain ⟨t1, t2, t3⟩ := two_heap w (.cells #[.int .i64 g, .slice a l.length c] 25) (.cells #[.int .i64 g, .slice b m.length d] 25)
  have T1 := hideIt t1
  have T2 := hideIt t2
  have HB := hideIt (below2 w (.cells #[.int .i64 g, .slice a l.length c] 25) (.cells #[.int .i64 g, .slice b m.length d] 25))
  clear t1 t2 t3
  rw [HL.out] at T1 T2 HB ⊢
  go_enter Tryd.func15, Tryd.ntmps15
  go_upto_region 1 with fail
  generalize (w.alloc (.cells #[.int .i64 g, .slice a l.length c] 25)).alloc (.cells #[.int .i64 g, .slice b l.length d] 25) = W0 at *
  obtain ⟨⟨x0, x1⟩, xf, xz⟩ := at2 T1.out
  obtain ⟨⟨y0, y1⟩, yf, yz⟩ := at2 T2.out
  go_upto_region 4 with fail
  clear x0 x1 xf xz y0 y1 yf yz
  go_loopw [5] (fun x wr => ∃ t : Nat, x = .int .i64 t ∧ t ≤ l.length ∧ Hid (Below W0.heap.size W0 wr)) (fun x _ => l.length - (RowKit.intOf x).toNat)
  case atStart => exact ⟨0, rfl, Nat.zero_le _, Below.refl _ _⟩
  case round =>
    obtain ⟨t, rfl, ht, HR⟩ := hrel
    obtain ⟨⟨x0, x1⟩, xf, xz⟩ := at2 (blkK T1.out HR.out)
    obtain ⟨⟨y0, y1⟩, yf, yz⟩ := at2 (blkK T2.out HR.out)
    by_cases hlt : t < l.length
    · have hltI : (t : Int) < (l.length : Int) := by omega
      have ht0 : (0 : Int) ≤ (t : Int) := by omega
      have hwt : IntKind.i64.wrap ((t : Int) + 1) = ((t + 1 : Nat) : Int) := by rw [IntKind.wrap_i64]; omega
      have hltm : t < m.length := by have := HL.out; omega
      obtain ⟨ab, ao, rfl, hal, hac⟩ := SGot.cellAt traK H1.out.row hlt
      obtain ⟨bb, bo, rfl, hbl, hbc⟩ := SGot.cellAt traK H2.out.row hltm
      have HQ := hideIt (fun W (hW : Below W0.heap.size W0 W) => sameTra_is l[t] m[t] W (HV.out t hlt hltm) ((H1.out.at_ _ (List.getElem_mem hlt)).keep (below_via HB.out hW)) ((H2.out.at_ _ (List.getElem_mem hltm)).keep (below_via HB.out hW)))
      have HLx : Hid ((Tryd.prog.info? 52).map (·.size) = some (traE l[t]).length) := by
        show _ = _
        rw [traK]
        kernel_rfl
      have HLy : Hid ((Tryd.prog.info? 52).map (·.size) = some (traE m[t]).length) := by
        show _ = _
        rw [traK]
        kernel_rfl
      have HC : Hid (∀ W, Below W0.heap.size W0 W → W.cell? ⟨w.heap.size, 0, none⟩ = some (.int .i64 g) ∧ W.cell? ⟨w.heap.size, 1, none⟩ = some (.slice (some ⟨ab, ao, none⟩) l.length c) ∧ W.cell? ⟨w.heap.size + 1, 0, none⟩ = some (.int .i64 g) ∧ W.cell? ⟨w.heap.size + 1, 1, none⟩ = some (.slice (some ⟨bb, bo, none⟩) l.length d) ∧ w.heap.size < W.heap.size ∧ w.heap.size + 1 < W.heap.size ∧ ab < W.heap.size ∧ bb < W.heap.size ∧ Hid (W.rangeAt ab (ao + t * 21) (traE l[t])) ∧ Hid (W.rangeAt bb (bo + t * 21) (traE m[t]))) := fun W hW => by
        obtain ⟨⟨x0, x1⟩, -, xz⟩ := at2 (blkK T1.out hW)
        obtain ⟨⟨y0, y1⟩, -, yz⟩ := at2 (blkK T2.out hW)
        have hb := below_via HB.out hW
        exact ⟨x0, x1, y0, y1, xz, yz, Nat.lt_of_lt_of_le hal hb.size, Nat.lt_of_lt_of_le hbl hb.size, hac W hb, hbc W hb⟩
      clear hac hbc hal hbl
      generalize traE l[t] = LX at *
      generalize traE m[t] = LY at *
      go_upto_region 6 with fail
      clear x0 x1 xf xz y0 y1 yf yz
      refine wp_region_held_drew (S := fun W => Below W0.heap.size W0 W) (by kernel_rfl) HR.out.drew (fun hHeld => ?_)
      generalize wr.drew = WD at *
      refine wpAnyH_take (i := 0) (oi := ⟨some 28, _, _, _, _, _⟩) (v := ?_) rfl (by kernel_rfl) (by kernel_rfl) (by kernel_rfl) (fun _ _ _ h => h) (Or.inl ⟨by rfl, ?_⟩) (by assumption) ?_
      rotate_left
      · intro w5 hSw
        obtain ⟨x0, x1, y0, y1, xz, yz, az, bz, rx, ry⟩ := HC.out w5 hSw
        go_simp
        (try with_reducible rfl)
      try simp only [Act.put, List.setIfInBounds_toArray, List.set_cons_zero, List.set_cons_succ]
      refine wpAnyH_take (i := 1) (oi := ⟨some 29, _, _, _, _, _⟩) (v := ?_) rfl (by kernel_rfl) (by kernel_rfl) (by kernel_rfl) (fun _ _ _ h => h) (Or.inl ⟨by rfl, ?_⟩) (by assumption) ?_
      rotate_left
      · intro w5 hSw
        obtain ⟨x0, x1, y0, y1, xz, yz, az, bz, rx, ry⟩ := HC.out w5 hSw
        go_simp
        (try with_reducible rfl)
      try simp only [Act.put, List.setIfInBounds_toArray, List.set_cons_zero, List.set_cons_succ]
      refine wpAnyH_take (i := 2) (oi := ⟨some 30, _, _, _, _, _⟩) (v := ?_) rfl (by kernel_rfl) (by kernel_rfl) (by kernel_rfl) (fun _ _ _ h => h) (Or.inl ⟨by rfl, ?_⟩) (by assumption) ?_
      rotate_left
      · intro w5 hSw
        obtain ⟨x0, x1, y0, y1, xz, yz, az, bz, rx, ry⟩ := HC.out w5 hSw
        go_simp
        (try with_reducible rfl)
      try simp only [Act.put, List.setIfInBounds_toArray, List.set_cons_zero, List.set_cons_succ]
      refine wpAnyH_take (i := 3) (oi := ⟨some 31, _, _, _, _, _⟩) (v := ?_) rfl (by kernel_rfl) (by kernel_rfl) (by kernel_rfl) (fun _ _ _ h => h) (Or.inl ⟨by rfl, ?_⟩) (by assumption) ?_
      rotate_left
      · intro w5 hSw
        obtain ⟨x0, x1, y0, y1, xz, yz, az, bz, rx, ry⟩ := HC.out w5 hSw
        go_simp
        (try with_reducible rfl)
      try simp only [Act.put, List.setIfInBounds_toArray, List.set_cons_zero, List.set_cons_succ]
      refine wpAnyH_take (i := 4) (oi := ⟨some 32, _, _, _, _, _⟩) (v := .agg LX.toArray) rfl (by kernel_rfl) (by kernel_rfl) (by kernel_rfl) (fun _ _ _ h => h) (yieldsIf_load_mid (by rfl) _ _ rfl ab (ao + t * 21) rfl LX _ (fun W h => (HC.out W h).2.2.2.2.2.2.2.2.1.out) Tryd.underlying52 rfl HLx.out) (by assumption) ?_
      try simp only [Act.put, List.setIfInBounds_toArray, List.set_cons_zero, List.set_cons_succ]
      refine wpAnyH_take (i := 5) (oi := ⟨some 33, _, _, _, _, _⟩) (v := ?_) rfl (by kernel_rfl) (by kernel_rfl) (by kernel_rfl) (fun _ _ _ h => h) (Or.inl ⟨by rfl, ?_⟩) (by assumption) ?_
      rotate_left
      · intro w5 hSw
        obtain ⟨x0, x1, y0, y1, xz, yz, az, bz, rx, ry⟩ := HC.out w5 hSw
        go_simp
        (try with_reducible rfl)
      try simp only [Act.put, List.setIfInBounds_toArray, List.set_cons_zero, List.set_cons_succ]
      refine wpAnyH_take (i := 6) (oi := ⟨some 34, _, _, _, _, _⟩) (v := ?_) rfl (by kernel_rfl) (by kernel_rfl) (by kernel_rfl) (fun _ _ _ h => h) (Or.inl ⟨by rfl, ?_⟩) (by assumption) ?_
      rotate_left
      · intro w5 hSw
        obtain ⟨x0, x1, y0, y1, xz, yz, az, bz, rx, ry⟩ := HC.out w5 hSw
        go_simp
        (try with_reducible rfl)
      try simp only [Act.put, List.setIfInBounds_toArray, List.set_cons_zero, List.set_cons_succ]
      refine wpAnyH_take (i := 7) (oi := ⟨some 35, _, _, _, _, _⟩) (v := ?_) rfl (by kernel_rfl) (by kernel_rfl) (by kernel_rfl) (fun _ _ _ h => h) (Or.inl ⟨by rfl, ?_⟩) (by assumption) ?_
      rotate_left
      · intro w5 hSw
        obtain ⟨x0, x1, y0, y1, xz, yz, az, bz, rx, ry⟩ := HC.out w5 hSw
        go_simp
        (try with_reducible rfl)
      try simp only [Act.put, List.setIfInBounds_toArray, List.set_cons_zero, List.set_cons_succ]
      refine wpAnyH_take (i := 8) (oi := ⟨some 36, _, _, _, _, _⟩) (v := ?_) rfl (by kernel_rfl) (by kernel_rfl) (by kernel_rfl) (fun _ _ _ h => h) (Or.inl ⟨by rfl, ?_⟩) (by assumption) ?_
      rotate_left
      · intro w5 hSw
        obtain ⟨x0, x1, y0, y1, xz, yz, az, bz, rx, ry⟩ := HC.out w5 hSw
        go_simp
        (try with_reducible rfl)
      try simp only [Act.put, List.setIfInBounds_toArray, List.set_cons_zero, List.set_cons_succ]
      refine wpAnyH_take (i := 9) (oi := ⟨some 37, _, _, _, _, _⟩) (v := .agg LY.toArray) rfl (by kernel_rfl) (by kernel_rfl) (by kernel_rfl) (fun _ _ _ h => h) (yieldsIf_load_mid (by rfl) _ _ rfl bb (bo + t * 21) rfl LY _ (fun W h => (HC.out W h).2.2.2.2.2.2.2.2.2.out) Tryd.underlying52 rfl HLy.out) (by assumption) ?_
      try simp only [Act.put, List.setIfInBounds_toArray, List.set_cons_zero, List.set_cons_succ]
      refine wpAnyH_ready (rs := [10]) (by kernel_rfl) (by simp) ?_
      refine (AllReadyH.cons (o := ⟨some 38, _, _, _, _, _⟩) rfl (fun Kx hK => ?_) AllReadyH.nil)
      go_simp
      go_at_call 29
      refine (HQ.out _ hHeld).mono ?_
      rintro e w6 ⟨rfl, hb⟩
      have hB6 := below_via hHeld hb
      refine hK.out _ _ hB6 (fun hHeld => ?_)
      clear hK Kx hb
      try simp only [Act.put, List.setIfInBounds_toArray, List.set_cons_zero, List.set_cons_succ]
      refine wpAnyH_take (i := 11) (oi := ⟨some 6, _, _, _, _, _⟩) (v := ?_) rfl (by kernel_rfl) (by kernel_rfl) (by kernel_rfl) (fun _ _ _ h => h) (Or.inl ⟨by rfl, ?_⟩) (by assumption) ?_
      rotate_left
      · intro w5 hSw
        obtain ⟨x0, x1, y0, y1, xz, yz, az, bz, rx, ry⟩ := HC.out w5 hSw
        go_simp
        (try with_reducible rfl)
      try simp only [Act.put, List.setIfInBounds_toArray, List.set_cons_zero, List.set_cons_succ]
      refine wpAnyH_done (by kernel_rfl) ?_ _
      have HB5 := hideIt hB6
      (repeat clear hHeld)
      clear HC HQ HR hB6
      go_wp2
      go_roundw
      case rel => exact ⟨t + 1, by go_num, by omega, HB5.out⟩
      case measure => simp [RowKit.intOf]; omega
    · have hltI : ¬ (t : Int) < (l.length : Int) := by omega
      have B4 := hideIt (below_via HB.out HR.out)
      clear HR
      go_wp2
      go_ret
      exact ⟨rfl, B4.out⟩
end Go.Proofs.YtilinemcmgjiiaaDoor
namespace Go.Proofs.YtilinemcmgjiiaaDoor
open Go.RowKit
set_option linter.all false
set_option maxHeartbeats 16000000 in
set_option maxRecDepth 100000 in
theorem again_walk (g : Int) (v : Value) (ls : List StpX) (w : World) (hh : Forms w ∧ Stps w v ls) : Calls Tryd.prog 6 #[.int .i64 g, v] w fun e w' => e = .returned (.bool true) ∧ Below w.heap.size w w' := by
  obtain ⟨hF, hG⟩ := hh
  have HLI := hideIt (fun W (hW : Below w.heap.size w W) => live_is W (hF.keep hW))
  have HNE := hideIt (fun W => newC_is g W)
  have HFE := hideIt (fun W (hW : Below w.heap.size w W) => fewS_is v ls W (hG.keep hW))
  have HFO := hideIt (fun W (hW : Below w.heap.size w W) => hF.keep hW)
  have HGO := hideIt hG
  cases hw : wiB g 0 3
  · rw [hw] at HNE
    rw [if_neg (by decide)] at HNE
    clear hF hG hw
    go_enter Tryd.func6, Tryd.ntmps6
    go_wp2_with fail
    refine (HNE.out _).mono ?_
    rintro e w1 ⟨rfl, hb⟩
    dsimp only
    have B1 := hideIt (below_via hb (below1 w1 (.cells #[.int .i64 0, .slice none 0 0] 25)))
    clear hb
    go_wp2_with fail
    refine (HLI.out _ B1.out).mono ?_
    rintro e w2 ⟨rfl, hb⟩
    dsimp only
    have B2 := hideIt (below_via B1.out hb)
    clear hb
    go_wp2
    go_ret
    exact ⟨rfl, B2.out⟩
  · rw [hw] at HNE
    rw [if_pos rfl] at HNE
    clear hF hG hw
    go_enter Tryd.func6, Tryd.ntmps6
    go_wp2_with fail
    refine (HNE.out _).mono ?_
    rintro e w1 ⟨rfl, hb⟩
    dsimp only
    have hbA := below1 w1 (.cells #[.int .i64 g, .slice none 0 0] 25)
    have B1 := hideIt (below_via hb hbA)
    have F0 : Hid (CoF w w1.heap.size g 0 (w1.alloc (.cells #[.int .i64 g, .slice none 0 0] 25))) := ⟨⟨none, 0, [], ⟨heap_alloc_new w1 _, TrsOwn.nil _ _⟩, List.Pairwise.nil, SzL.nil⟩, B1.out⟩
    have hk : w.heap.size ≤ w1.heap.size := hb.size
    clear hb hbA HNE
    go_upto_region 4 with fail
    generalize w1.alloc (.cells #[.int .i64 g, .slice none 0 0] 25) = W1 at *
    generalize w1.heap.size = k at *
    go_wp2_with fail
    refine (HFE.out _ B1.out).mono ?_
    rintro e wq ⟨⟨v2, rfl, hv2⟩, e2⟩
    obtain rfl := e2.symm
    dsimp only
    have HG2 := hideIt (hv2 w HGO.out)
    have hl40 : (ls.take 40).length ≤ 40 := by rw [List.length_take]; omega
    clear hv2 HFE HGO
    generalize ls.take 40 = l at *
    obtain ⟨sa, sc, rfl, h8, hr⟩ := HG2.out.cells
    have HS := hideIt hr
    clear hr
    go_upto_region 6 with fail
    go_loopw [7] (fun x wr => ∃ i : Nat, x = .int .i64 i ∧ i ≤ l.length ∧ Hid (CoF w k g i wr)) (fun x _ => l.length - (intOf x).toNat)
    case atStart => exact ⟨0, rfl, Nat.zero_le _, F0.out⟩
    case round =>
      clear F0 B1
      obtain ⟨i, rfl, hi, HR⟩ := hrel
      by_cases hlt : i < l.length
      · have hltI : (i : Int) < (l.length : Int) := by omega
        have hi0 : (0 : Int) ≤ (i : Int) := by omega
        have hwi : IntKind.i64.wrap ((i : Int) + 1) = ((i + 1 : Nat) : Int) := by rw [IntKind.wrap_i64]; omega
        obtain ⟨a, c, ys, hco, hnm, hsz⟩ := HR.out.co
        have CO := hideIt hco
        have NM := hideIt hnm
        have BL := hideIt HR.out.bel
        obtain ⟨sb, so, hva, hgl, hq⟩ := HS.out i hlt
        subst hva
        obtain ⟨s, hse⟩ : ∃ s, s = l[i] := ⟨_, rfl⟩
        have SM := hideIt (HG2.out.sml _ (List.getElem_mem hlt))
        have SA := hideIt (HG2.out.at_ _ (List.getElem_mem hlt))
        rw [← hse] at SM SA hq
        have room := hsz.room (by omega) SM.out
        have HSTEP := hideIt (fun W (hW : Below wr.heap.size wr W) => step_is g a c ys s W (hco.own.keep hW).at_ (SA.out.keep (below_via BL.out hW)) (HFO.out _ (below_via BL.out hW)) (by have := room.1; rwa [List.length_map] at this) room.2.1)
        have SZ := hideIt hsz
        have HBad := hideIt (fun h => stp_bad (g := g) (l := ys.map TraX.v) (s := s) h)
        have HChg := hideIt (fun h => stp_chg (g := g) (l := ys.map TraX.v) (s := s) h)
        have HSz := hideIt (fun h => sz_step (g := g) (s := s) hsz SM.out h)
        unfold HeaBack at HSTEP
        have HLS : Hid ((Tryd.prog.info? 49).map (·.size) = some (stpE s).length) := by
          show _ = _
          rw [stpK]
          kernel_rfl
        have hrg : wr.rangeAt sb (so + i * 40) (stpE s) := fun j v hv => (BL.out.cell (p := ⟨sb, so + i * 40 + j, none⟩) hgl).trans (hq j v hv)
        have hsb : sb < wr.heap.size := Nat.lt_of_lt_of_le hgl BL.out.size
        obtain ⟨⟨q0, q1⟩, qf, qz⟩ := at2 hco.box
        have HQ := hideIt hq
        have hgw := hgl
        clear hq hgl hco hnm hsz room HR hse
        have HSR : Hid (s.beg = false → s.tak = false → stpR g (ys.map TraX.v) s = heaR g (ys.map TraX.v) s.m) := fun h1 h2 => by unfold stpR; rw [h1, h2, if_neg (by decide), if_neg (by decide)]
        have HSC : Hid (∀ W, Below w.heap.size w W → W.cell? ⟨sb, so + i * 40, none⟩ = some (.bool s.beg) ∧ W.cell? ⟨sb, so + i * 40 + 1, none⟩ = some (.bool s.tak) ∧ Hid (W.rangeAt sb (so + i * 40 + 16) (mesE s.m)) ∧ sb < W.heap.size) := fun W hW => by
          have hc : ∀ j v, (stpE s)[j]? = some v → W.cell? ⟨sb, so + i * 40 + j, none⟩ = some v := fun j v hv => (hW.cell (p := ⟨sb, so + i * 40 + j, none⟩) hgw).trans (HQ.out j v hv)
          refine ⟨hc 0 _ rfl, hc 1 _ rfl, fun j v hv => ?_, Nat.lt_of_lt_of_le hgw hW.size⟩
          have e : (stpE s)[16 + j]? = some v := by
            unfold stpE
            rw [List.getElem?_append_right (by simp [reqC])]
            simpa [reqC] using hv
          have := hc (16 + j) v e
          rwa [← Nat.add_assoc] at this
        clear HQ
        generalize stpE s = LS at *
        obtain ⟨R, hR⟩ : ∃ R, R = stpR g (ys.map TraX.v) s := ⟨_, rfl⟩
        rw [← hR] at HSTEP HBad HChg HSz HSR
        have HRE : Hid (s.beg = false → s.tak = false → heaR g (ys.map TraX.v) s.m = R) := fun h1 h2 => (HSR.out h1 h2).symm
        clear hR HSR
        obtain ⟨g2, d, mk, er⟩ := R
        dsimp only at *
        go_upto_region 8 with fail
        go_cut [8, 9, 10] from 24 to 80 (fun x8 x9 x10 wx => ∃ k8 ma mc, x8 = .pointer (some ⟨k8, 0, none⟩) ∧ x9 = .slice ma mk.length mc ∧ x10 = .int .i64 er ∧ Hid (RS w wr k8 g2 d ma mc mk wx))
        case first =>
          refine wp_region_held_drew (S := fun W => W.cell? ⟨k, 0, none⟩ = some (.int .i64 g) ∧ W.cell? ⟨k, 1, none⟩ = some (.slice a ys.length c) ∧ W.rangeAt sb (so + i * 40) LS) (by kernel_rfl) ⟨by simpa using q0, by simpa using q1, by simpa using hrg⟩ (fun hHeld => ?_)
          have BD := hideIt ((Below.refl wr.heap.size wr).drew)
          generalize wr.drew = WD at *
          refine wpAnyH_take (i := 0) (oi := ⟨some 31, _, _, _, _, _⟩) (v := ?_) rfl (by kernel_rfl) (by kernel_rfl) (by kernel_rfl) (fun _ _ _ h => h) (Or.inl ⟨by rfl, ?_⟩) (by assumption) ?_
          rotate_left
          · intro w5 hSw
            (try dsimp only at hSw)
            go_simp
            (try with_reducible rfl)
          try simp only [Act.put, List.setIfInBounds_toArray, List.set_cons_zero, List.set_cons_succ]
          refine wpAnyH_take (i := 1) (oi := ⟨some 32, _, _, _, _, _⟩) (v := ?_) rfl (by kernel_rfl) (by kernel_rfl) (by kernel_rfl) (fun _ _ _ h => h) (Or.inl ⟨by rfl, ?_⟩) (by assumption) ?_
          rotate_left
          · intro w5 hSw
            (try dsimp only at hSw)
            go_simp
            (try with_reducible rfl)
          try simp only [Act.put, List.setIfInBounds_toArray, List.set_cons_zero, List.set_cons_succ]
          refine wpAnyH_take (i := 2) (oi := ⟨some 33, _, _, _, _, _⟩) (v := ?_) rfl (by kernel_rfl) (by kernel_rfl) (by kernel_rfl) (fun _ _ _ h => h) (Or.inl ⟨by rfl, ?_⟩) (by assumption) ?_
          rotate_left
          · intro w5 hSw
            (try dsimp only at hSw)
            go_simp
            (try with_reducible rfl)
          try simp only [Act.put, List.setIfInBounds_toArray, List.set_cons_zero, List.set_cons_succ]
          refine wpAnyH_take (i := 3) (oi := ⟨some 34, _, _, _, _, _⟩) (v := ?_) rfl (by kernel_rfl) (by kernel_rfl) (by kernel_rfl) (fun _ _ _ h => h) (Or.inl ⟨by rfl, ?_⟩) (by assumption) ?_
          rotate_left
          · intro w5 hSw
            (try dsimp only at hSw)
            go_simp
            (try with_reducible rfl)
          try simp only [Act.put, List.setIfInBounds_toArray, List.set_cons_zero, List.set_cons_succ]
          refine wpAnyH_take (i := 4) (oi := ⟨some 35, _, _, _, _, _⟩) (v := .agg LS.toArray) rfl (by kernel_rfl) (by kernel_rfl) (by kernel_rfl) (fun _ _ _ h => h) (yieldsIf_load_mid (by rfl) _ _ rfl sb (so + i * 40) rfl LS _ (fun W h => h.2.2) Tryd.underlying49 rfl HLS.out) (by assumption) ?_
          try simp only [Act.put, List.setIfInBounds_toArray, List.set_cons_zero, List.set_cons_succ]
          refine wpAnyH_ready (rs := [5, 10]) (by kernel_rfl) (by simp) ?_
          refine AllReadyH.cons (o := ⟨some 36, _, _, _, _, _⟩) rfl (fun Kx hK => ?_) (AllReadyH.cons (o := ⟨some 8, _, _, _, _, _⟩) rfl (fun Kx hK => ?_) AllReadyH.nil)
          · go_simp
            go_at_call 10
            refine (HSTEP.out _ BD.out).mono ?_
            rintro e w1 ⟨a2, c2, ys2, ma, mc, rfl, hy2, ho2, hm2, hb⟩
            have B1 := hideIt (below_via BD.out hb)
            have HY2 := hideIt hy2
            have HO2 := hideIt ho2
            have HM2 := hideIt hm2
            have hS1 : w1.cell? ⟨k, 0, none⟩ = some (.int .i64 g) ∧ w1.cell? ⟨k, 1, none⟩ = some (.slice a ys.length c) ∧ w1.rangeAt sb (so + i * 40) LS := ⟨(hb.cell (p := ⟨k, 0, none⟩) (World.block_lt_of_cell? _ _ hHeld.1)).trans hHeld.1, (hb.cell (p := ⟨k, 1, none⟩) (World.block_lt_of_cell? _ _ hHeld.2.1)).trans hHeld.2.1, fun j v hv => (hb.cell (p := ⟨sb, so + i * 40 + j, none⟩) (World.block_lt_of_cell? _ _ (hHeld.2.2 j v hv))).trans (hHeld.2.2 j v hv)⟩
            refine hK.out _ _ hS1 (fun hHeld => ?_)
            clear hK Kx hy2 ho2 hm2
            try simp only [Act.put, List.setIfInBounds_toArray, List.set_cons_zero, List.set_cons_succ]
            refine wpAnyH_take (i := 6) (oi := ⟨some 30, _, _, _, _, _⟩) (v := ?_) rfl (by kernel_rfl) (by kernel_rfl) (by kernel_rfl) (fun _ _ _ h => h) (Or.inl ⟨by rfl, ?_⟩) (by assumption) ?_
            rotate_left
            · intro w5 hSw
              (try dsimp only at hSw)
              go_simp
              (try with_reducible rfl)
            try simp only [Act.put, List.setIfInBounds_toArray, List.set_cons_zero, List.set_cons_succ]
            refine wpAnyH_take (i := 7) (oi := ⟨some 37, _, _, _, _, _⟩) (v := ?_) rfl (by kernel_rfl) (by kernel_rfl) (by kernel_rfl) (fun _ _ _ h => h) (Or.inl ⟨by rfl, ?_⟩) (by assumption) ?_
            rotate_left
            · intro w5 hSw
              (try dsimp only at hSw)
              go_simp
              (try with_reducible rfl)
            try simp only [Act.put, List.setIfInBounds_toArray, List.set_cons_zero, List.set_cons_succ]
            refine wpAnyH_take (i := 8) (oi := ⟨some 38, _, _, _, _, _⟩) (v := ?_) rfl (by kernel_rfl) (by kernel_rfl) (by kernel_rfl) (fun _ _ _ h => h) (Or.inl ⟨by rfl, ?_⟩) (by assumption) ?_
            rotate_left
            · intro w5 hSw
              (try dsimp only at hSw)
              go_simp
              (try with_reducible rfl)
            try simp only [Act.put, List.setIfInBounds_toArray, List.set_cons_zero, List.set_cons_succ]
            refine wpAnyH_take (i := 9) (oi := ⟨some 39, _, _, _, _, _⟩) (v := ?_) rfl (by kernel_rfl) (by kernel_rfl) (by kernel_rfl) (fun _ _ _ h => h) (Or.inl ⟨by rfl, ?_⟩) (by assumption) ?_
            rotate_left
            · intro w5 hSw
              (try dsimp only at hSw)
              go_simp
              (try with_reducible rfl)
            try simp only [Act.put, List.setIfInBounds_toArray, List.set_cons_zero, List.set_cons_succ]
            refine wpAnyH_ready (rs := [10]) (by kernel_rfl) (by simp) ?_
            refine (AllReadyH.cons (o := ⟨some 8, _, _, _, _, _⟩) rfl (fun Kx hK => ?_) AllReadyH.nil)
            go_simp
            refine hK.out _ _ ⟨by rw [World.cell?_alloc_some _ _ _ (by rw [hS1.1]; rfl)]; exact hS1.1, by rw [World.cell?_alloc_some _ _ _ (by rw [hS1.2.1]; rfl)]; exact hS1.2.1, World.rangeAt_alloc hS1.2.2 _⟩ (fun hHeld => ?_)
            clear hK Kx
            try simp only [Act.put, List.setIfInBounds_toArray, List.set_cons_zero, List.set_cons_succ]
            have RR := hideIt (rs_new (g := g2) (w := w) (wr := wr) (Nat.le_trans BL.out.size BD.out.size) HY2.out HO2.out HM2.out B1.out)
            refine wpAnyH_ready (rs := [11]) (by kernel_rfl) (by simp) ?_
            refine (AllReadyH.cons (o := ⟨none, _, _, _, _, _⟩) rfl (fun Kx hK => ?_) AllReadyH.nil)
            go_simp
            refine hK.out _ _ ⟨by rw [World.cell?_alloc_some _ _ _ (by rw [hS1.1]; rfl)]; exact hS1.1, by rw [World.cell?_alloc_some _ _ _ (by rw [hS1.2.1]; rfl)]; exact hS1.2.1, World.rangeAt_alloc hS1.2.2 _⟩ (fun hHeld => ?_)
            clear hK Kx
            try simp only [Act.put, List.setIfInBounds_toArray, List.set_cons_zero, List.set_cons_succ]
            refine wpAnyH_take (i := 12) (oi := ⟨some 9, _, _, _, _, _⟩) (v := ?_) rfl (by kernel_rfl) (by kernel_rfl) (by kernel_rfl) (fun _ _ _ h => h) (Or.inl ⟨by rfl, ?_⟩) (by assumption) ?_
            rotate_left
            · intro w5 hSw
              (try dsimp only at hSw)
              go_simp
              (try with_reducible rfl)
            try simp only [Act.put, List.setIfInBounds_toArray, List.set_cons_zero, List.set_cons_succ]
            refine wpAnyH_take (i := 13) (oi := ⟨some 10, _, _, _, _, _⟩) (v := ?_) rfl (by kernel_rfl) (by kernel_rfl) (by kernel_rfl) (fun _ _ _ h => h) (Or.inl ⟨by rfl, ?_⟩) (by assumption) ?_
            rotate_left
            · intro w5 hSw
              (try dsimp only at hSw)
              go_simp
              (try with_reducible rfl)
            try simp only [Act.put, List.setIfInBounds_toArray, List.set_cons_zero, List.set_cons_succ]
            refine wpAnyH_done (by kernel_rfl) ?_ _
            go_wp2_with fail
            go_meet
            case rel => exact ⟨_, _, _, rfl, rfl, rfl, RR.out⟩
          · go_simp
            have hS2 : (WD.alloc (.cells #[.int .i64 0, .slice none 0 0] 25)).cell? ⟨k, 0, none⟩ = some (.int .i64 g) ∧ (WD.alloc (.cells #[.int .i64 0, .slice none 0 0] 25)).cell? ⟨k, 1, none⟩ = some (.slice a ys.length c) ∧ (WD.alloc (.cells #[.int .i64 0, .slice none 0 0] 25)).rangeAt sb (so + i * 40) LS := ⟨by rw [World.cell?_alloc_some _ _ _ (by rw [hHeld.1]; rfl)]; exact hHeld.1, by rw [World.cell?_alloc_some _ _ _ (by rw [hHeld.2.1]; rfl)]; exact hHeld.2.1, World.rangeAt_alloc hHeld.2.2 _⟩
            have hkD : k < WD.heap.size := World.block_lt_of_cell? _ _ hHeld.1
            have hsD : sb < WD.heap.size := Nat.lt_of_lt_of_le hsb BD.out.size
            have XN := hideIt (heap_alloc_new WD (.cells #[.int .i64 0, .slice none 0 0] 25))
            have BA := hideIt (below_via BD.out (below1 WD (.cells #[.int .i64 0, .slice none 0 0] 25)))
            refine hK.out _ _ hS2 (fun hHeld => ?_)
            clear hK Kx
            try simp only [Act.put, List.setIfInBounds_toArray, List.set_cons_zero, List.set_cons_succ]
            generalize WD.alloc (.cells #[.int .i64 0, .slice none 0 0] 25) = WA at *
            have hw8 : wr.heap.size ≤ WD.heap.size := BD.out.size
            generalize WD.heap.size = k8 at *
            refine wpAnyH_ready (rs := [5]) (by kernel_rfl) (by simp) ?_
            refine (AllReadyH.cons (o := ⟨some 36, _, _, _, _, _⟩) rfl (fun Kx hK => ?_) AllReadyH.nil)
            go_simp
            go_at_call 10
            refine (HSTEP.out _ BA.out).mono ?_
            rintro e w1 ⟨a2, c2, ys2, ma, mc, rfl, hy2, ho2, hm2, hb⟩
            have hS1 : w1.cell? ⟨k, 0, none⟩ = some (.int .i64 g) ∧ w1.cell? ⟨k, 1, none⟩ = some (.slice a ys.length c) ∧ w1.rangeAt sb (so + i * 40) LS := ⟨(hb.cell (p := ⟨k, 0, none⟩) (World.block_lt_of_cell? _ _ hS2.1)).trans hS2.1, (hb.cell (p := ⟨k, 1, none⟩) (World.block_lt_of_cell? _ _ hS2.2.1)).trans hS2.2.1, fun j v hv => (hb.cell (p := ⟨sb, so + i * 40 + j, none⟩) (World.block_lt_of_cell? _ _ (hS2.2.2 j v hv))).trans (hS2.2.2 j v hv)⟩
            have RR := hideIt (rs_set (g := g2) (w := w) (wr := wr) (blkK XN.out hb) hw8 (Nat.le_trans BL.out.size BA.out.size) hy2 ho2 hm2 (below_via BA.out hb))
            obtain ⟨⟨n0, n1⟩, nf, nz⟩ := at2 (blkK XN.out hb)
            refine hK.out _ _ hS1 (fun hHeld => ?_)
            clear hK Kx hy2 ho2 hm2 hb
            try simp only [Act.put, List.setIfInBounds_toArray, List.set_cons_zero, List.set_cons_succ]
            refine wpAnyH_take (i := 6) (oi := ⟨some 30, _, _, _, _, _⟩) (v := ?_) rfl (by kernel_rfl) (by kernel_rfl) (by kernel_rfl) (fun _ _ _ h => h) (Or.inl ⟨by rfl, ?_⟩) (by assumption) ?_
            rotate_left
            · intro w5 hSw
              (try dsimp only at hSw)
              go_simp
              (try with_reducible rfl)
            try simp only [Act.put, List.setIfInBounds_toArray, List.set_cons_zero, List.set_cons_succ]
            refine wpAnyH_take (i := 7) (oi := ⟨some 37, _, _, _, _, _⟩) (v := ?_) rfl (by kernel_rfl) (by kernel_rfl) (by kernel_rfl) (fun _ _ _ h => h) (Or.inl ⟨by rfl, ?_⟩) (by assumption) ?_
            rotate_left
            · intro w5 hSw
              (try dsimp only at hSw)
              go_simp
              (try with_reducible rfl)
            try simp only [Act.put, List.setIfInBounds_toArray, List.set_cons_zero, List.set_cons_succ]
            refine wpAnyH_take (i := 8) (oi := ⟨some 38, _, _, _, _, _⟩) (v := ?_) rfl (by kernel_rfl) (by kernel_rfl) (by kernel_rfl) (fun _ _ _ h => h) (Or.inl ⟨by rfl, ?_⟩) (by assumption) ?_
            rotate_left
            · intro w5 hSw
              (try dsimp only at hSw)
              go_simp
              (try with_reducible rfl)
            try simp only [Act.put, List.setIfInBounds_toArray, List.set_cons_zero, List.set_cons_succ]
            refine wpAnyH_take (i := 9) (oi := ⟨some 39, _, _, _, _, _⟩) (v := ?_) rfl (by kernel_rfl) (by kernel_rfl) (by kernel_rfl) (fun _ _ _ h => h) (Or.inl ⟨by rfl, ?_⟩) (by assumption) ?_
            rotate_left
            · intro w5 hSw
              (try dsimp only at hSw)
              go_simp
              (try with_reducible rfl)
            try simp only [Act.put, List.setIfInBounds_toArray, List.set_cons_zero, List.set_cons_succ]
            refine wpAnyH_ready (rs := [11]) (by kernel_rfl) (by simp) ?_
            refine (AllReadyH.cons (o := ⟨none, _, _, _, _, _⟩) rfl (fun Kx hK => ?_) AllReadyH.nil)
            go_simp
            refine hK.out _ _ ⟨by rw [World.cell?_setCell_far _ _ _ _ (by show k8 ≠ k; omega), World.cell?_setCell_far _ _ _ _ (by show k8 ≠ k; omega)]; exact hS1.1, by rw [World.cell?_setCell_far _ _ _ _ (by show k8 ≠ k; omega), World.cell?_setCell_far _ _ _ _ (by show k8 ≠ k; omega)]; exact hS1.2.1, fun j v hv => by rw [World.cell?_setCell_far _ _ _ _ (by show k8 ≠ sb; omega), World.cell?_setCell_far _ _ _ _ (by show k8 ≠ sb; omega)]; exact hS1.2.2 j v hv⟩ (fun hHeld => ?_)
            clear hK Kx
            try simp only [Act.put, List.setIfInBounds_toArray, List.set_cons_zero, List.set_cons_succ]
            refine wpAnyH_take (i := 12) (oi := ⟨some 9, _, _, _, _, _⟩) (v := ?_) rfl (by kernel_rfl) (by kernel_rfl) (by kernel_rfl) (fun _ _ _ h => h) (Or.inl ⟨by rfl, ?_⟩) (by assumption) ?_
            rotate_left
            · intro w5 hSw
              (try dsimp only at hSw)
              go_simp
              (try with_reducible rfl)
            try simp only [Act.put, List.setIfInBounds_toArray, List.set_cons_zero, List.set_cons_succ]
            refine wpAnyH_take (i := 13) (oi := ⟨some 10, _, _, _, _, _⟩) (v := ?_) rfl (by kernel_rfl) (by kernel_rfl) (by kernel_rfl) (fun _ _ _ h => h) (Or.inl ⟨by rfl, ?_⟩) (by assumption) ?_
            rotate_left
            · intro w5 hSw
              (try dsimp only at hSw)
              go_simp
              (try with_reducible rfl)
            try simp only [Act.put, List.setIfInBounds_toArray, List.set_cons_zero, List.set_cons_succ]
            refine wpAnyH_done (by kernel_rfl) ?_ _
            go_wp2_with fail
            go_meet
            case rel => exact ⟨_, _, _, rfl, rfl, rfl, RR.out⟩
        case rest =>
          obtain ⟨k8, ma, mc, rfl, rfl, rfl, HRS⟩ := hcut
          clear q0 q1 qf qz hrg hsb HSTEP HLS
          by_cases he : er = 0
          · subst he
            have HCh := hideIt (HChg.out rfl).2
            have hg2 := (HChg.out rfl).1
            have SZ2 := hideIt (HSz.out rfl)
            subst hg2
            clear HChg HBad HSz
            obtain ⟨a2, c2, zs, hco2, hzs⟩ := HRS.out.co
            have COX := hideIt (CO.out.keep HRS.out.bel)
            have CO2 := hideIt hco2
            have HZS := hideIt hzs
            have BX := hideIt (below_via BL.out HRS.out.bel)
            have hkr : k < wr.heap.size := (Array.getElem?_eq_some_iff.1 CO.out.box).1
            have hi41 : i + 1 ≤ 40 := by omega
            have NM2 := hideIt (chg_nm NM.out HCh.out)
            have FNX : Hid (∀ W, Below wc.heap.size wc W → CoF w k g2 (i + 1) ((W.setCell ⟨k, 0, none⟩ (.int .i64 g2)).setCell ⟨k, 1, none⟩ (.slice a2 zs.length c2))) := fun W hW => ⟨⟨a2, c2, zs, (COX.out.keep hW).put (CO2.out.keep hW), by rw [HZS.out]; exact NM2.out, by rw [HZS.out]; exact SZ2.out⟩, belowSet _ (belowSet _ (below_via BX.out hW) hk) hk⟩
            have QX : Hid (∀ W, Below wc.heap.size wc W → W.cell? ⟨k, 0, none⟩ = some (.int .i64 g2) ∧ W.cell? ⟨k, 1, none⟩ = some (.slice a ys.length c) ∧ W.cell? ⟨k8, 0, none⟩ = some (.int .i64 g2) ∧ W.cell? ⟨k8, 1, none⟩ = some (.slice a2 zs.length c2) ∧ k < W.heap.size ∧ k8 < W.heap.size ∧ (∀ j, W.frozen? ⟨k, j, none⟩ = false)) := fun W hW => by
              obtain ⟨⟨x0, x1⟩, xf, xz⟩ := at2 (COX.out.keep hW).box
              obtain ⟨⟨z0, z1⟩, -, zz⟩ := at2 (CO2.out.keep hW).box
              exact ⟨x0, x1, z0, z1, xz, zz, xf⟩
            obtain ⟨s0, s1, HRM, hsbc⟩ := HSC.out wc BX.out
            clear hco2 hzs HRS CO BL
            cases hbg : s.beg
            · cases htk : s.tak
              · rw [hbg] at s0
                rw [htk] at s1
                have HRE2 := hideIt (HRE.out hbg htk)
                clear HRE hbg htk
                have HAG : Hid (heaR g2 d s.m = (g2, d, [], 0)) := by
                  show _ = _
                  have h1 := again_step (g := g2) (l := ys.map TraX.v) (m := s.m) (by rw [HRE2.out])
                  rw [HRE2.out] at h1
                  exact h1
                have hrm := (SZ2.out.room (s := s) hi41 SM.out).2.1
                have HHEAR := hideIt (fun W (hW : Below wc.heap.size wc W) => hear_is g2 a2 c2 zs s.m W (CO2.out.keep hW).own.at_ (SA.out.m.keep (below_via BX.out hW)) (by rw [HZS.out]; exact hrm))
                rw [HZS.out, HAG.out] at HHEAR
                unfold HeaBack at HHEAR
                dsimp only at HHEAR
                simp only [List.length_nil] at HHEAR
                have HLM : Hid ((Tryd.prog.info? 47).map (·.size) = some (mesE s.m).length) := by
                  show _ = _
                  rw [mesK]
                  kernel_rfl
                have hrgM := HRM.out
                obtain ⟨q0, q1, z0, z1, qz, zz, qf⟩ := QX.out wc (Below.refl _ _)
                clear HRE2 HAG hrm HRM HSC
                generalize mesE s.m = LM at *
                go_upto_region 11 with fail
                clear s0 s1
                go_cut [11, 12, 13] from 24 to 80 (fun x11 x12 x13 wx => ∃ k11 na nc, x11 = .pointer (some ⟨k11, 0, none⟩) ∧ x12 = .slice na 0 nc ∧ x13 = .int .i64 0 ∧ Hid (RS w wc k11 g2 d na nc [] wx))
                case first =>
                  refine wp_region_held_drew (S := fun W => W.cell? ⟨k8, 0, none⟩ = some (.int .i64 g2) ∧ W.cell? ⟨k8, 1, none⟩ = some (.slice a2 zs.length c2) ∧ W.rangeAt sb (so + i * 40 + 16) LM) (by kernel_rfl) ⟨by simpa using z0, by simpa using z1, by simpa using hrgM⟩ (fun hHeld => ?_)
                  have BD := hideIt ((Below.refl wc.heap.size wc).drew)
                  generalize wc.drew = WD at *
                  refine wpAnyH_take (i := 0) (oi := ⟨some 57, _, _, _, _, _⟩) (v := ?_) rfl (by kernel_rfl) (by kernel_rfl) (by kernel_rfl) (fun _ _ _ h => h) (Or.inl ⟨by rfl, ?_⟩) (by assumption) ?_
                  rotate_left
                  · intro w5 hSw
                    (try dsimp only at hSw)
                    go_simp
                    (try with_reducible rfl)
                  try simp only [Act.put, List.setIfInBounds_toArray, List.set_cons_zero, List.set_cons_succ]
                  refine wpAnyH_take (i := 1) (oi := ⟨some 58, _, _, _, _, _⟩) (v := ?_) rfl (by kernel_rfl) (by kernel_rfl) (by kernel_rfl) (fun _ _ _ h => h) (Or.inl ⟨by rfl, ?_⟩) (by assumption) ?_
                  rotate_left
                  · intro w5 hSw
                    (try dsimp only at hSw)
                    go_simp
                    (try with_reducible rfl)
                  try simp only [Act.put, List.setIfInBounds_toArray, List.set_cons_zero, List.set_cons_succ]
                  refine wpAnyH_take (i := 2) (oi := ⟨some 59, _, _, _, _, _⟩) (v := ?_) rfl (by kernel_rfl) (by kernel_rfl) (by kernel_rfl) (fun _ _ _ h => h) (Or.inl ⟨by rfl, ?_⟩) (by assumption) ?_
                  rotate_left
                  · intro w5 hSw
                    (try dsimp only at hSw)
                    go_simp
                    (try with_reducible rfl)
                  try simp only [Act.put, List.setIfInBounds_toArray, List.set_cons_zero, List.set_cons_succ]
                  refine wpAnyH_take (i := 3) (oi := ⟨some 60, _, _, _, _, _⟩) (v := ?_) rfl (by kernel_rfl) (by kernel_rfl) (by kernel_rfl) (fun _ _ _ h => h) (Or.inl ⟨by rfl, ?_⟩) (by assumption) ?_
                  rotate_left
                  · intro w5 hSw
                    (try dsimp only at hSw)
                    go_simp
                    (try with_reducible rfl)
                  try simp only [Act.put, List.setIfInBounds_toArray, List.set_cons_zero, List.set_cons_succ]
                  refine wpAnyH_take (i := 4) (oi := ⟨some 61, _, _, _, _, _⟩) (v := ?_) rfl (by kernel_rfl) (by kernel_rfl) (by kernel_rfl) (fun _ _ _ h => h) (Or.inl ⟨by rfl, ?_⟩) (by assumption) ?_
                  rotate_left
                  · intro w5 hSw
                    (try dsimp only at hSw)
                    go_simp
                    (try with_reducible rfl)
                  try simp only [Act.put, List.setIfInBounds_toArray, List.set_cons_zero, List.set_cons_succ]
                  refine wpAnyH_take (i := 5) (oi := ⟨some 62, _, _, _, _, _⟩) (v := .agg LM.toArray) rfl (by kernel_rfl) (by kernel_rfl) (by kernel_rfl) (fun _ _ _ h => h) (yieldsIf_load_mid (by rfl) _ _ rfl sb (so + i * 40 + 16) rfl LM _ (fun W h => h.2.2) Tryd.underlying47 rfl HLM.out) (by assumption) ?_
                  try simp only [Act.put, List.setIfInBounds_toArray, List.set_cons_zero, List.set_cons_succ]
                  refine wpAnyH_ready (rs := [6, 11]) (by kernel_rfl) (by simp) ?_
                  refine AllReadyH.cons (o := ⟨some 63, _, _, _, _, _⟩) rfl (fun Kx hK => ?_) (AllReadyH.cons (o := ⟨some 11, _, _, _, _, _⟩) rfl (fun Kx hK => ?_) AllReadyH.nil)
                  · go_simp
                    go_at_call 14
                    refine (HHEAR.out _ BD.out).mono ?_
                    rintro e w1 ⟨a4, c4, xs, na, nc, rfl, hy2, ho2, hm2, hb⟩
                    have B1 := hideIt (below_via BD.out hb)
                    have HY2 := hideIt hy2
                    have HO2 := hideIt ho2
                    have HM2 := hideIt hm2
                    have hS1 : w1.cell? ⟨k8, 0, none⟩ = some (.int .i64 g2) ∧ w1.cell? ⟨k8, 1, none⟩ = some (.slice a2 zs.length c2) ∧ w1.rangeAt sb (so + i * 40 + 16) LM := ⟨(hb.cell (p := ⟨k8, 0, none⟩) (World.block_lt_of_cell? _ _ hHeld.1)).trans hHeld.1, (hb.cell (p := ⟨k8, 1, none⟩) (World.block_lt_of_cell? _ _ hHeld.2.1)).trans hHeld.2.1, fun j v hv => (hb.cell (p := ⟨sb, so + i * 40 + 16 + j, none⟩) (World.block_lt_of_cell? _ _ (hHeld.2.2 j v hv))).trans (hHeld.2.2 j v hv)⟩
                    refine hK.out _ _ hS1 (fun hHeld => ?_)
                    clear hK Kx hy2 ho2 hm2
                    try simp only [Act.put, List.setIfInBounds_toArray, List.set_cons_zero, List.set_cons_succ]
                    refine wpAnyH_take (i := 7) (oi := ⟨some 56, _, _, _, _, _⟩) (v := ?_) rfl (by kernel_rfl) (by kernel_rfl) (by kernel_rfl) (fun _ _ _ h => h) (Or.inl ⟨by rfl, ?_⟩) (by assumption) ?_
                    rotate_left
                    · intro w5 hSw
                      (try dsimp only at hSw)
                      go_simp
                      (try with_reducible rfl)
                    try simp only [Act.put, List.setIfInBounds_toArray, List.set_cons_zero, List.set_cons_succ]
                    refine wpAnyH_take (i := 8) (oi := ⟨some 64, _, _, _, _, _⟩) (v := ?_) rfl (by kernel_rfl) (by kernel_rfl) (by kernel_rfl) (fun _ _ _ h => h) (Or.inl ⟨by rfl, ?_⟩) (by assumption) ?_
                    rotate_left
                    · intro w5 hSw
                      (try dsimp only at hSw)
                      go_simp
                      (try with_reducible rfl)
                    try simp only [Act.put, List.setIfInBounds_toArray, List.set_cons_zero, List.set_cons_succ]
                    refine wpAnyH_take (i := 9) (oi := ⟨some 65, _, _, _, _, _⟩) (v := ?_) rfl (by kernel_rfl) (by kernel_rfl) (by kernel_rfl) (fun _ _ _ h => h) (Or.inl ⟨by rfl, ?_⟩) (by assumption) ?_
                    rotate_left
                    · intro w5 hSw
                      (try dsimp only at hSw)
                      go_simp
                      (try with_reducible rfl)
                    try simp only [Act.put, List.setIfInBounds_toArray, List.set_cons_zero, List.set_cons_succ]
                    refine wpAnyH_take (i := 10) (oi := ⟨some 66, _, _, _, _, _⟩) (v := ?_) rfl (by kernel_rfl) (by kernel_rfl) (by kernel_rfl) (fun _ _ _ h => h) (Or.inl ⟨by rfl, ?_⟩) (by assumption) ?_
                    rotate_left
                    · intro w5 hSw
                      (try dsimp only at hSw)
                      go_simp
                      (try with_reducible rfl)
                    try simp only [Act.put, List.setIfInBounds_toArray, List.set_cons_zero, List.set_cons_succ]
                    refine wpAnyH_ready (rs := [11]) (by kernel_rfl) (by simp) ?_
                    refine (AllReadyH.cons (o := ⟨some 11, _, _, _, _, _⟩) rfl (fun Kx hK => ?_) AllReadyH.nil)
                    go_simp
                    refine hK.out _ _ ⟨by rw [World.cell?_alloc_some _ _ _ (by rw [hS1.1]; rfl)]; exact hS1.1, by rw [World.cell?_alloc_some _ _ _ (by rw [hS1.2.1]; rfl)]; exact hS1.2.1, World.rangeAt_alloc hS1.2.2 _⟩ (fun hHeld => ?_)
                    clear hK Kx
                    try simp only [Act.put, List.setIfInBounds_toArray, List.set_cons_zero, List.set_cons_succ]
                    have RR := hideIt (rs_new (g := g2) (w := w) (wr := wc) (mk := []) (Nat.le_trans BX.out.size BD.out.size) HY2.out HO2.out HM2.out B1.out)
                    refine wpAnyH_ready (rs := [12]) (by kernel_rfl) (by simp) ?_
                    refine (AllReadyH.cons (o := ⟨none, _, _, _, _, _⟩) rfl (fun Kx hK => ?_) AllReadyH.nil)
                    go_simp
                    refine hK.out _ _ ⟨by rw [World.cell?_alloc_some _ _ _ (by rw [hS1.1]; rfl)]; exact hS1.1, by rw [World.cell?_alloc_some _ _ _ (by rw [hS1.2.1]; rfl)]; exact hS1.2.1, World.rangeAt_alloc hS1.2.2 _⟩ (fun hHeld => ?_)
                    clear hK Kx
                    try simp only [Act.put, List.setIfInBounds_toArray, List.set_cons_zero, List.set_cons_succ]
                    refine wpAnyH_take (i := 13) (oi := ⟨some 12, _, _, _, _, _⟩) (v := ?_) rfl (by kernel_rfl) (by kernel_rfl) (by kernel_rfl) (fun _ _ _ h => h) (Or.inl ⟨by rfl, ?_⟩) (by assumption) ?_
                    rotate_left
                    · intro w5 hSw
                      (try dsimp only at hSw)
                      go_simp
                      (try with_reducible rfl)
                    try simp only [Act.put, List.setIfInBounds_toArray, List.set_cons_zero, List.set_cons_succ]
                    refine wpAnyH_take (i := 14) (oi := ⟨some 13, _, _, _, _, _⟩) (v := ?_) rfl (by kernel_rfl) (by kernel_rfl) (by kernel_rfl) (fun _ _ _ h => h) (Or.inl ⟨by rfl, ?_⟩) (by assumption) ?_
                    rotate_left
                    · intro w5 hSw
                      (try dsimp only at hSw)
                      go_simp
                      (try with_reducible rfl)
                    try simp only [Act.put, List.setIfInBounds_toArray, List.set_cons_zero, List.set_cons_succ]
                    refine wpAnyH_done (by kernel_rfl) ?_ _
                    go_wp2_with fail
                    go_meet
                    case rel => exact ⟨_, _, _, rfl, rfl, rfl, RR.out⟩
                  · go_simp
                    have hS2 : (WD.alloc (.cells #[.int .i64 0, .slice none 0 0] 25)).cell? ⟨k8, 0, none⟩ = some (.int .i64 g2) ∧ (WD.alloc (.cells #[.int .i64 0, .slice none 0 0] 25)).cell? ⟨k8, 1, none⟩ = some (.slice a2 zs.length c2) ∧ (WD.alloc (.cells #[.int .i64 0, .slice none 0 0] 25)).rangeAt sb (so + i * 40 + 16) LM := ⟨by rw [World.cell?_alloc_some _ _ _ (by rw [hHeld.1]; rfl)]; exact hHeld.1, by rw [World.cell?_alloc_some _ _ _ (by rw [hHeld.2.1]; rfl)]; exact hHeld.2.1, World.rangeAt_alloc hHeld.2.2 _⟩
                    have hkD : k8 < WD.heap.size := World.block_lt_of_cell? _ _ hHeld.1
                    have hsD : sb < WD.heap.size := Nat.lt_of_lt_of_le hsbc BD.out.size
                    have XN := hideIt (heap_alloc_new WD (.cells #[.int .i64 0, .slice none 0 0] 25))
                    have BA := hideIt (below_via BD.out (below1 WD (.cells #[.int .i64 0, .slice none 0 0] 25)))
                    refine hK.out _ _ hS2 (fun hHeld => ?_)
                    clear hK Kx
                    try simp only [Act.put, List.setIfInBounds_toArray, List.set_cons_zero, List.set_cons_succ]
                    generalize WD.alloc (.cells #[.int .i64 0, .slice none 0 0] 25) = WA at *
                    have hw8 : wc.heap.size ≤ WD.heap.size := BD.out.size
                    generalize WD.heap.size = k11 at *
                    refine wpAnyH_ready (rs := [6]) (by kernel_rfl) (by simp) ?_
                    refine (AllReadyH.cons (o := ⟨some 63, _, _, _, _, _⟩) rfl (fun Kx hK => ?_) AllReadyH.nil)
                    go_simp
                    go_at_call 14
                    refine (HHEAR.out _ BA.out).mono ?_
                    rintro e w1 ⟨a4, c4, xs, na, nc, rfl, hy2, ho2, hm2, hb⟩
                    have hS1 : w1.cell? ⟨k8, 0, none⟩ = some (.int .i64 g2) ∧ w1.cell? ⟨k8, 1, none⟩ = some (.slice a2 zs.length c2) ∧ w1.rangeAt sb (so + i * 40 + 16) LM := ⟨(hb.cell (p := ⟨k8, 0, none⟩) (World.block_lt_of_cell? _ _ hS2.1)).trans hS2.1, (hb.cell (p := ⟨k8, 1, none⟩) (World.block_lt_of_cell? _ _ hS2.2.1)).trans hS2.2.1, fun j v hv => (hb.cell (p := ⟨sb, so + i * 40 + 16 + j, none⟩) (World.block_lt_of_cell? _ _ (hS2.2.2 j v hv))).trans (hS2.2.2 j v hv)⟩
                    have RR := hideIt (rs_set (g := g2) (w := w) (wr := wc) (mk := []) (blkK XN.out hb) hw8 (Nat.le_trans BX.out.size BA.out.size) hy2 ho2 hm2 (below_via BA.out hb))
                    obtain ⟨⟨n0, n1⟩, nf, nz⟩ := at2 (blkK XN.out hb)
                    refine hK.out _ _ hS1 (fun hHeld => ?_)
                    clear hK Kx hy2 ho2 hm2 hb
                    try simp only [Act.put, List.setIfInBounds_toArray, List.set_cons_zero, List.set_cons_succ]
                    refine wpAnyH_take (i := 7) (oi := ⟨some 56, _, _, _, _, _⟩) (v := ?_) rfl (by kernel_rfl) (by kernel_rfl) (by kernel_rfl) (fun _ _ _ h => h) (Or.inl ⟨by rfl, ?_⟩) (by assumption) ?_
                    rotate_left
                    · intro w5 hSw
                      (try dsimp only at hSw)
                      go_simp
                      (try with_reducible rfl)
                    try simp only [Act.put, List.setIfInBounds_toArray, List.set_cons_zero, List.set_cons_succ]
                    refine wpAnyH_take (i := 8) (oi := ⟨some 64, _, _, _, _, _⟩) (v := ?_) rfl (by kernel_rfl) (by kernel_rfl) (by kernel_rfl) (fun _ _ _ h => h) (Or.inl ⟨by rfl, ?_⟩) (by assumption) ?_
                    rotate_left
                    · intro w5 hSw
                      (try dsimp only at hSw)
                      go_simp
                      (try with_reducible rfl)
                    try simp only [Act.put, List.setIfInBounds_toArray, List.set_cons_zero, List.set_cons_succ]
                    refine wpAnyH_take (i := 9) (oi := ⟨some 65, _, _, _, _, _⟩) (v := ?_) rfl (by kernel_rfl) (by kernel_rfl) (by kernel_rfl) (fun _ _ _ h => h) (Or.inl ⟨by rfl, ?_⟩) (by assumption) ?_
                    rotate_left
                    · intro w5 hSw
                      (try dsimp only at hSw)
                      go_simp
                      (try with_reducible rfl)
                    try simp only [Act.put, List.setIfInBounds_toArray, List.set_cons_zero, List.set_cons_succ]
                    refine wpAnyH_take (i := 10) (oi := ⟨some 66, _, _, _, _, _⟩) (v := ?_) rfl (by kernel_rfl) (by kernel_rfl) (by kernel_rfl) (fun _ _ _ h => h) (Or.inl ⟨by rfl, ?_⟩) (by assumption) ?_
                    rotate_left
                    · intro w5 hSw
                      (try dsimp only at hSw)
                      go_simp
                      (try with_reducible rfl)
                    try simp only [Act.put, List.setIfInBounds_toArray, List.set_cons_zero, List.set_cons_succ]
                    refine wpAnyH_ready (rs := [12]) (by kernel_rfl) (by simp) ?_
                    refine (AllReadyH.cons (o := ⟨none, _, _, _, _, _⟩) rfl (fun Kx hK => ?_) AllReadyH.nil)
                    go_simp
                    refine hK.out _ _ ⟨by rw [World.cell?_setCell_far _ _ _ _ (by show k11 ≠ k8; omega), World.cell?_setCell_far _ _ _ _ (by show k11 ≠ k8; omega)]; exact hS1.1, by rw [World.cell?_setCell_far _ _ _ _ (by show k11 ≠ k8; omega), World.cell?_setCell_far _ _ _ _ (by show k11 ≠ k8; omega)]; exact hS1.2.1, fun j v hv => by rw [World.cell?_setCell_far _ _ _ _ (by show k11 ≠ sb; omega), World.cell?_setCell_far _ _ _ _ (by show k11 ≠ sb; omega)]; exact hS1.2.2 j v hv⟩ (fun hHeld => ?_)
                    clear hK Kx
                    try simp only [Act.put, List.setIfInBounds_toArray, List.set_cons_zero, List.set_cons_succ]
                    refine wpAnyH_take (i := 13) (oi := ⟨some 12, _, _, _, _, _⟩) (v := ?_) rfl (by kernel_rfl) (by kernel_rfl) (by kernel_rfl) (fun _ _ _ h => h) (Or.inl ⟨by rfl, ?_⟩) (by assumption) ?_
                    rotate_left
                    · intro w5 hSw
                      (try dsimp only at hSw)
                      go_simp
                      (try with_reducible rfl)
                    try simp only [Act.put, List.setIfInBounds_toArray, List.set_cons_zero, List.set_cons_succ]
                    refine wpAnyH_take (i := 14) (oi := ⟨some 13, _, _, _, _, _⟩) (v := ?_) rfl (by kernel_rfl) (by kernel_rfl) (by kernel_rfl) (fun _ _ _ h => h) (Or.inl ⟨by rfl, ?_⟩) (by assumption) ?_
                    rotate_left
                    · intro w5 hSw
                      (try dsimp only at hSw)
                      go_simp
                      (try with_reducible rfl)
                    try simp only [Act.put, List.setIfInBounds_toArray, List.set_cons_zero, List.set_cons_succ]
                    refine wpAnyH_done (by kernel_rfl) ?_ _
                    go_wp2_with fail
                    go_meet
                    case rel => exact ⟨_, _, _, rfl, rfl, rfl, RR.out⟩
                case rest =>
                  obtain ⟨k11, na, nc, rfl, rfl, rfl, HR2⟩ := hcut
                  obtain ⟨a5, c5, xs, hco5, hxs⟩ := HR2.out.co
                  have CO5 := hideIt hco5
                  have HSM := hideIt (fun W (hW : Below wc.heap.size wc W) => sameCo_is g2 a5 a2 c5 c2 xs zs W (hxs.trans HZS.out.symm) (CO5.out.keep hW).own.at_ (CO2.out.keep (below_via HR2.out.bel hW)).own.at_)
                  have BW1 := hideIt HR2.out.bel
                  clear q0 q1 z0 z1 qz zz qf hco5 hxs HR2 HHEAR hrgM
                  obtain ⟨q0, q1, z0, z1, qz, zz, qf⟩ := QX.out _ BW1.out
                  obtain ⟨⟨p0, p1⟩, pf, pz⟩ := at2 CO5.out.box
                  go_wp2_with fail
                  refine (HSM.out _ (Below.refl _ _)).mono ?_
                  rintro e w6 ⟨rfl, hb⟩
                  dsimp only
                  have BW2 := hideIt (below_via BW1.out hb)
                  have FN := hideIt (FNX.out _ BW2.out)
                  clear q0 q1 z0 z1 qz zz qf p0 p1 pf pz hb
                  obtain ⟨q0, q1, z0, z1, qz, zz, qf⟩ := QX.out _ BW2.out
                  clear FNX QX COX CO2 CO5 NM NM2 SZ SZ2 HZS BX HCh HSM BW1 BW2
                  go_wp2
                  go_roundw
                  case rel => exact ⟨i + 1, by go_num, by omega, FN.out⟩
                  case measure => simp [intOf]; omega
              · rw [hbg] at s0
                rw [htk] at s1
                have FN := hideIt (FNX.out wc (Below.refl _ _))
                obtain ⟨q0, q1, z0, z1, qz, zz, qf⟩ := QX.out wc (Below.refl _ _)
                clear HRE hbg htk FNX QX COX CO2 NM NM2 SZ SZ2 HZS BX HCh HSC HRM
                go_wp2
                go_roundw
                case rel => exact ⟨i + 1, by go_num, by omega, FN.out⟩
                case measure => simp [intOf]; omega
            · rw [hbg] at s0
              have FN := hideIt (FNX.out wc (Below.refl _ _))
              obtain ⟨q0, q1, z0, z1, qz, zz, qf⟩ := QX.out wc (Below.refl _ _)
              clear HRE hbg FNX QX COX CO2 NM NM2 SZ SZ2 HZS BX HCh HSC HRM
              go_wp2
              go_roundw
              case rel => exact ⟨i + 1, by go_num, by omega, FN.out⟩
              case measure => simp [intOf]; omega
          · have he2 : (er == 0) = false := by simpa using he
            have he3 : (er != 0) = true := by simpa using he
            have FN : Hid (CoF w k g (i + 1) wc) := ⟨⟨a, c, ys, CO.out.keep HRS.out.bel, NM.out, SZ.out.more⟩, below_via BL.out HRS.out.bel⟩
            clear HChg HBad HSz CO NM SZ HRS BL HRE HSC
            go_wp2
            go_roundw
            case rel => exact ⟨i + 1, by go_num, by omega, FN.out⟩
            case measure => simp [intOf]; omega
      · have hltI : ¬ (i : Int) < (l.length : Int) := by omega
        have B2 := hideIt HR.out.bel
        clear HR
        go_wp2_with fail
        refine (HLI.out _ B2.out).mono ?_
        rintro e w2 ⟨rfl, hb⟩
        dsimp only
        have B3 := hideIt (below_via B2.out hb)
        clear hb
        go_wp2
        go_ret
        exact ⟨rfl, B3.out⟩
end Go.Proofs.YtilinemcmgjiiaaDoor
