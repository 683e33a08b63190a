/- Packets are sent and doubled: walked. -/
import Derived.Test.YtagfolckodpioaaNt
import Derived.Test.YtagfolckodpioaaPkClone
import Derived.Laws.LoneSync
namespace Go.Proofs.Ytagfolckodpioaa.K2
open Go.RowKit Go.Maps Go.Proofs.Ytagfolckodpioaa
set_option linter.all false
theorem clone70 (s : ByteArray) (w : World) (hlim : s.size ≤ 281474976710656) : Calls Try.prog 51 #[.string s] w fun e w' => e = .returned (.string s) ∧ Below w.heap.size w w' := by
  go_enter Try.func51, Try.ntmps51
  go_wp2_with fail
  refine (Any.stringslite_Clone layClone s _ hlim).mono ?_
  rintro e w1 ⟨rfl, hb⟩
  go_wp2
  go_ret
  exact ⟨rfl, hb⟩
theorem atomAdd_is (p off : Nat) (c : Int) (w : World) (hc : w.cell? ⟨p, off, none⟩ = some (.int .i64 c)) (hf : w.frozen? ⟨p, off, none⟩ = false) (h0 : 0 ≤ c) (h1 : c < 4611686018427387904) : Calls Try.prog 53 #[.pointer (some ⟨p, off, none⟩), .int .i64 1] w fun e w' => (∃ v, e = .returned v) ∧ w' = w.setCell ⟨p, off, none⟩ (.int .i64 (c + 1)) := by
  have hs : (Op.intArith .add .i64 c 1).run Try.prog w = .ok (.int .i64 (c + 1)) w := by
    simp [Op.intArith]
    exact IntWalk.i64_in _ (by omega)
  have hl := run_call_add (P := Try.prog) Try.func80 (by kernel_rfl) (by kernel_rfl) (by kernel_rfl) .i64 (by kernel_rfl) (s := c + 1) hc hf hs
  go_enter Try.func53, Try.ntmps53
  go_wp2
  go_ret
  exact ⟨⟨_, rfl⟩, rfl⟩
theorem NA.sent {B n mb : Nat} {room sent taken : Int} {l : List PkV} {row : Value} {c : Nat} {f : Pks} {W : World} (h : NA B n mb room sent taken l row c f W) (s : Int) : NA B n mb room s taken l row c f (W.setCell ⟨n, 3, none⟩ (.int .i64 s)) :=
  ⟨heap_set h.blk 3 _, own_cell h.own h.blk (by decide), h.mp.block (setOther _ rfl (h.mp.nb h.blk))⟩
theorem NA.box {B n mb K j : Nat} {room sent taken : Int} {l : List PkV} {row v : Value} {c : Nat} {f : Pks} {W : World} (h : NA B n mb room sent taken l row c f W) (h1 : row.ownBlock ≠ some K) (h2 : n ≠ K) (h3 : mb ≠ K) : NA B n mb room sent taken l row c f (W.setCell ⟨K, j, none⟩ v) :=
  ⟨setOther _ h.blk h2, own_ne h.own h1, h.mp.block (setOther _ rfl h3)⟩
set_option maxHeartbeats 8000000 in
set_option maxRecDepth 100000 in
theorem send_ok (B n mb : Nat) (room sent taken : Int) (l : List PkV) (row : Value) (c : Nat) (f : Pks) (p : PkV) (w : World) (h : NA B n mb room sent taken l row c f w) (hB : B ≤ w.heap.size) (hn : B ≤ n) (hm : B ≤ mb) (hl : l.length ≤ 3000) (hc : c ≤ 100000) (hf : ∀ x, 0 ≤ pg f x ∧ pg f x ≤ 1000000) (hs : 0 ≤ sent ∧ sent ≤ 1000000000) (h1 : wiB p.frm 1 7 = true) (h2 : wiB p.dst 1 7 = true) (h3 : p.text.size ≤ 70008) (h4 : (l.length : Int) < room) : Calls Try.prog 19 #[.pointer (some ⟨n, 0, none⟩), pkV p] w fun e w' => e = .returned (.int .i64 0) ∧ (∃ row', NA B n mb room (sent + 1) taken (l ++ [p]) row' (c + 1) (updP f p (pg f p + 1)) w') ∧ Below B w w' := by
  have hw1 : 1 ≤ p.frm ∧ p.frm ≤ 7 := by unfold wiB at h1; simpa using h1
  have hw2 : 1 ≤ p.dst ∧ p.dst ≤ 7 := by unfold wiB at h2; simpa using h2
  have e1 : IntKind.i64.min = -9223372036854775808 := by decide
  have e2 : IntKind.i64.max = 9223372036854775807 := by decide
  have hp : PkOk p := ⟨by simp [Lit.wf, e1, e2]; omega, by simp [Lit.wf, e1, e2]; omega, by unfold maxLen; omega⟩
  have hb1 := below1 w (.cells #[.int .i64 p.frm, .int .i64 p.dst, .string p.text] 56)
  have N1 := hideIt (h.keep hb1)
  have K1 := hideIt (heap_alloc_new w (.cells #[.int .i64 p.frm, .int .i64 p.dst, .string p.text] 56))
  have Z1 : Hid (B ≤ w.heap.size) := hB
  have B1 := hideIt hb1
  have I1 := hideIt (fun W => isNode_is p.frm W)
  have I2 := hideIt (fun W => isNode_is p.dst W)
  rw [h1] at I1
  rw [h2] at I2
  have HCL := hideIt (fun W => clone70 p.text W (by omega))
  have HAD := hideIt (fun W row (hN : NA B n mb room sent taken l row c f W) (hz : B ≤ W.heap.size) => add_is B n mb room sent taken l row c f p W hN hz hn hm hl hc hp hf)
  have hlen : ¬ (70008 : Int) < (p.text.size : Int) := by omega
  have HNE : Hid (row.ownBlock ≠ some w.heap.size) := fun e => by have := (h.own.lt _ e).2; omega
  have hnK : n ≠ w.heap.size := by have := (Array.getElem?_eq_some_iff.1 h.blk).1; omega
  have hmK : mb ≠ w.heap.size := by have := h.mp.lt; omega
  clear h hb1 hB e1 e2 hp h1 h2 hw1 hw2 h3 hf
  unfold pkV at *
  obtain ⟨pf, pd, pt⟩ := p
  simp only at *
  obtain ⟨ra, rc, rfl⟩ := own_len N1.out.own
  go_enter Try.func19, Try.ntmps19
  go_upto_region 1 with fail
  generalize w.alloc (.cells #[.int .i64 pf, .int .i64 pd, .string pt] 56) = W1 at *
  obtain ⟨b0, b1, b2, bf, bz⟩ := three_at K1.out
  go_wp2_with fail
  refine (I1.out _).mono ?_
  rintro e w1 ⟨rfl, rfl⟩
  dsimp only
  go_wp2_with fail
  refine (I2.out _).mono ?_
  rintro e w2 ⟨rfl, rfl⟩
  dsimp only
  go_upto_region 5 with fail
  have HFU := hideIt (full_any n room sent taken ra l.length rc mb w2 N1.out.blk)
  have hfd : decide (room ≤ (l.length : Int)) = false := decide_eq_false (by omega)
  rw [hfd] at HFU
  go_wp2_with fail
  refine HFU.out.mono ?_
  rintro e w3 ⟨rfl, hb⟩
  dsimp only
  have N3 := hideIt (N1.out.keep hb)
  have K3 := hideIt (blkK K1.out hb)
  have B3 := hideIt (below_via B1.out hb)
  clear hb N1 K1 B1 HFU hfd b0 b1 b2 bf bz I1 I2
  obtain ⟨b0, b1, b2, bf, bz⟩ := three_at K3.out
  go_wp2_with fail
  refine (HCL.out _).mono ?_
  rintro e w4 ⟨rfl, hb⟩
  dsimp only
  have K4 := hideIt (blkK K3.out hb)
  have N4 := hideIt (N3.out.keep hb)
  have B4 := hideIt (below_via B3.out hb)
  clear hb N3 K3 B3 HCL b0 b1 b2 bf bz
  obtain ⟨b0, b1, b2, bf, bz⟩ := three_at K4.out
  have K5 := hideIt (heap_set K4.out 2 (.string pt))
  have B5 : Hid (Below w.heap.size w (w4.setCell ⟨w.heap.size, 2, none⟩ (.string pt))) := belowSet _ B4.out (Nat.le_refl _)
  have N5 := hideIt (N4.out.box (j := 2) (v := .string pt) HNE.out hnK hmK)
  clear N4 K4 B4
  go_upto_region 8 with fail
  clear b0 b1 b2 bf bz
  generalize w4.setCell ⟨w.heap.size, 2, none⟩ (.string pt) = W5 at *
  obtain ⟨b0, b1, b2, bf, bz⟩ := three_at (w := W5) (a := .int .i64 pf) (b := .int .i64 pd) (c := .string pt) K5.out
  go_wp2_with fail
  refine (HAD.out _ _ N5.out (Nat.le_trans Z1.out B5.out.size)).mono ?_
  rintro e w6 ⟨rfl, ⟨row', hN⟩, hb⟩
  dsimp only
  have N6 := hideIt hN
  have B6 : Hid (Below B w w6) := (B5.out.mono Z1.out).trans hb
  clear hN hb N5 K5 B5 HAD b0 b1 b2 bf bz
  obtain ⟨⟨c0, c1, c2, c3, c4⟩, cf, cz⟩ := five5_at N6.out.blk
  have HAT := hideIt (atomAdd_is n 3 sent w6 c3 (cf 3) hs.1 (by omega))
  go_wp2_with fail
  refine HAT.out.mono ?_
  rintro e w7 ⟨⟨v, rfl⟩, rfl⟩
  dsimp only
  have N7 := hideIt (N6.out.sent (sent + 1))
  have B7 : Hid (Below B w (w6.setCell ⟨n, 3, none⟩ (.int .i64 (sent + 1)))) := belowSet _ B6.out hn
  clear N6 B6 HAT c0 c1 c2 c3 c4 cf cz
  go_wp2
  go_ret
  exact ⟨rfl, ⟨_, N7.out⟩, B7.out⟩
set_option maxHeartbeats 8000000 in
set_option maxRecDepth 100000 in
theorem double_ok (B n mb : Nat) (room sent taken : Int) (l : List PkV) (row : Value) (c : Nat) (f : Pks) (i : Nat) (w : World) (h : NA B n mb room sent taken l row c f w) (hB : B ≤ w.heap.size) (hn : B ≤ n) (hm : B ≤ mb) (hl : l.length ≤ 3000) (hc : c ≤ 100000) (hf : ∀ x, 0 ≤ pg f x ∧ pg f x ≤ 1000000) (hi : i < l.length) (hp : PkOk l[i]) (h4 : (l.length : Int) < room) : Calls Try.prog 23 #[.pointer (some ⟨n, 0, none⟩), .int .i64 i] w fun e w' => e = .returned (.int .i64 0) ∧ (∃ row', NA B n mb room sent taken (l ++ [l[i]]) row' (c + 1) (updP f l[i] (pg f l[i] + 1)) w') ∧ Below B w w' := by
  obtain ⟨p, hpe⟩ : ∃ p, l[i] = p := ⟨_, rfl⟩
  rw [hpe] at hp ⊢
  obtain ⟨ra, rc, rfl⟩ := own_len h.own
  have HHA := hideIt (has_any n i room sent taken ra l.length rc mb w (by omega) h.blk)
  have hwi : wiB (i : Int) 0 ((l.length : Int) - 1) = true := by unfold wiB; simp; omega
  rw [hwi] at HHA
  have HFU := hideIt (full_any n room sent taken ra l.length rc mb w h.blk)
  have hfd : decide (room ≤ (l.length : Int)) = false := decide_eq_false (by omega)
  rw [hfd] at HFU
  have HAD := hideIt (fun W (hN : NA B n mb room sent taken l (.slice ra l.length rc) c f W) (hz : B ≤ W.heap.size) => add_is B n mb room sent taken l (.slice ra l.length rc) c f p W hN hz hn hm hl hc hp hf)
  have HN := hideIt h
  have HPE := hideIt hpe
  clear hpe
  have Z1 : Hid (B ≤ w.heap.size) := hB
  clear h hwi hfd hB hf hp
  go_enter Try.func23, Try.ntmps23
  go_wp2_with fail
  refine HHA.out.mono ?_
  rintro e w1 ⟨rfl, rfl⟩
  dsimp only
  go_wp2_with fail
  refine HFU.out.mono ?_
  rintro e w2 ⟨rfl, hb⟩
  dsimp only
  have N2 := hideIt (HN.out.keep hb)
  have B2 := hideIt hb
  clear hb HN HHA HFU
  obtain ⟨⟨c0, c1, c2, c3, c4⟩, cf, cz⟩ := five5_at N2.out.blk
  have hG : SGot 3 32 pkE w2 (.slice ra l.length rc) l := own_sgot N2.out.own (by omega)
  obtain ⟨h8, a', c', e, hcap, hr⟩ := hG
  simp only [Value.slice.injEq, true_and] at e
  obtain ⟨rfl, rfl⟩ := e
  obtain ⟨g, off, rfl, hgl, hcc⟩ := hr (by omega)
  have q0 : w2.cell? ⟨g, off + i * 3, none⟩ = some (.int .i64 p.frm) := by
    rw [hcc (i * 3) (by omega)]
    rw [← HPE.out]
    exact celC_get pkE_len l i hi 0 (by omega)
  have q1 : w2.cell? ⟨g, off + i * 3 + 1, none⟩ = some (.int .i64 p.dst) := by
    rw [show off + i * 3 + 1 = off + (i * 3 + 1) by omega, hcc (i * 3 + 1) (by omega)]
    rw [← HPE.out]
    exact celC_get pkE_len l i hi 1 (by omega)
  have q2 : w2.cell? ⟨g, off + i * 3 + 2, none⟩ = some (.string p.text) := by
    rw [show off + i * 3 + 2 = off + (i * 3 + 2) by omega, hcc (i * 3 + 2) (by omega)]
    rw [← HPE.out]
    exact celC_get pkE_len l i hi 2 (by omega)
  clear hcc hr
  have hiI : (i : Int) < (l.length : Int) := by omega
  have hi0 : (0 : Int) ≤ (i : Int) := by omega
  unfold pkV at HAD
  go_wp2_with fail
  refine (HAD.out _ N2.out (Nat.le_trans Z1.out B2.out.size)).mono ?_
  rintro e w3 ⟨rfl, hN, hb⟩
  dsimp only
  have N3 := hideIt hN
  have B3 : Hid (Below B w1 w3) := (B2.out.mono Z1.out).trans hb
  clear hN hb N2 B2 HAD q0 q1 q2 c0 c1 c2 c3 c4 cf cz
  go_wp2
  go_ret
  exact ⟨rfl, N3.out, B3.out⟩
end Go.Proofs.Ytagfolckodpioaa.K2
