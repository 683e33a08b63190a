/- acknowledge: walked. -/
import Derived.Test.YtilinemcmgjiiaaDoorVt
namespace Go.Proofs.YtilinemcmgjiiaaDoor
open Go.RowKit
set_option linter.all false
theorem at4 {w : World} {p : Nat} {ty : TypeId} {z0 z1 z2 z3 : Value} (h : w.heap[p]? = some (.cells #[z0, z1, z2, z3] ty (0, 0))) : (w.cell? ⟨p, 0, none⟩ = some z0 ∧ w.cell? ⟨p, 1, none⟩ = some z1 ∧ w.cell? ⟨p, 2, none⟩ = some z2 ∧ w.cell? ⟨p, 3, none⟩ = some z3) ∧ (∀ j, w.frozen? ⟨p, j, none⟩ = false) ∧ p < w.heap.size :=
  ⟨⟨by rw [cell_at h]; rfl, by rw [cell_at h]; rfl, by rw [cell_at h]; rfl, by rw [cell_at h]; rfl⟩, fun j => free_at h j, (Array.getElem?_eq_some_iff.1 h).1⟩
theorem clone_am (v : Value) (l : List AmV) (w : World) (h : Ams w v l) : Calls Tryd.prog 19 #[v] w fun e w' => ∃ a' c', e = .returned (.slice a' l.length c') ∧ w'.ownsRow w.heap.size 72 2 (.slice a' l.length c') l.length (celC amE l) ∧ Below w.heap.size w w' := by
  refine (cloneA_is v l w h).mono ?_
  rintro e w' ⟨v', rfl, ho, hb⟩
  obtain ⟨a, c, rfl⟩ := own_len ho
  exact ⟨a, c, rfl, ho, hb⟩
set_option maxHeartbeats 8000000 in
set_option maxRecDepth 100000 in
theorem ack_idle {B b n c i k j : Nat} {w : World} {ys : List TraX} (xc xn : Int) (xa xf : Option Addr) (xac xfc : Nat) (am : List AmV) (fl : List FilV) (h : TrsOwn B w (.slice (some ⟨b, 0, none⟩) n c) ys) (hi : i < ys.length) (hk : k = i * 21) (hj : j < ys[i].ps.length) (hB : B ≤ w.heap.size) (hno : ¬ (ys[i].st ≠ 1 ∧ ys[i].ps[j].ac = false)) : Calls Tryd.prog 28 #[.pointer (some ⟨b, k, none⟩), .int .i64 j, .agg #[.int .i64 xc, .int .i64 xn, .slice xa am.length xac, .slice xf fl.length xfc]] w fun e w' => e = .returned (.tuple #[]) ∧ Turned B w (.slice (some ⟨b, 0, none⟩) n c) ys i ys[i].v w' := by
  have hb1 := below1 w (.cells #[.int .i64 xc, .int .i64 xn, .slice xa am.length xac, .slice xf fl.length xfc] 44)
  have x1 := heap_alloc_new w (.cells #[.int .i64 xc, .int .i64 xn, .slice xa am.length xac, .slice xf fl.length xfc] 44)
  have o1 := h.keep hb1
  obtain ⟨pb, cur, hpa, hpB, hpb, hpc⟩ := (o1.own _ (List.getElem_mem hi)).peers hj
  obtain ⟨hc, hf, hz⟩ := o1.cellAt hi
  have c13 : (w.alloc (.cells #[.int .i64 xc, .int .i64 xn, .slice xa am.length xac, .slice xf fl.length xfc] 44)).cell? ⟨b, k + 13, none⟩ = some (.slice (some ⟨pb, 0, none⟩) ys[i].ps.length ys[i].pc) := by rw [hk, ← hpa]; exact hc 13 _ rfl
  have c14 : (w.alloc (.cells #[.int .i64 xc, .int .i64 xn, .slice xa am.length xac, .slice xf fl.length xfc] 44)).cell? ⟨b, k + 14, none⟩ = some (.int .i64 ys[i].st) := by rw [hk]; exact hc 14 _ rfl
  have p4 : (w.alloc (.cells #[.int .i64 xc, .int .i64 xn, .slice xa am.length xac, .slice xf fl.length xfc] 44)).cell? ⟨pb, j * 5 + 4, none⟩ = some (.bool ys[i].ps[j].ac) := hpc 4 _ rfl
  have pf : ∀ j, (w.alloc (.cells #[.int .i64 xc, .int .i64 xn, .slice xa am.length xac, .slice xf fl.length xfc] 44)).frozen? ⟨pb, j, none⟩ = false := fun j => free_at hpb j
  have hpz : pb < (w.alloc (.cells #[.int .i64 xc, .int .i64 xn, .slice xa am.length xac, .slice xf fl.length xfc] 44)).heap.size := (Array.getElem?_eq_some_iff.1 hpb).1
  have hj0 : (0 : Int) ≤ (j : Int) := by omega
  have hj1 : (j : Int) < (ys[i].ps.length : Int) := by omega
  have HT : Hid (Turned B w (.slice (some ⟨b, 0, none⟩) n c) ys i ys[i].v (w.alloc (.cells #[.int .i64 xc, .int .i64 xn, .slice xa am.length xac, .slice xf fl.length xfc] 44))) := ⟨⟨ys[i], rfl, by rw [List.set_getElem_self]; exact o1⟩, hb1.mono hB, KP.of hb1⟩
  clear hk hb1 h x1 hc hpb hpa hpc hpB o1
  generalize ys[i].v = T at *
  generalize ys[i].ps[j].ac = vo at *
  generalize ys[i].ps.length = pn at *
  generalize ys[i].st = st at *
  generalize ys[i].pc = pc at *
  clear hj
  by_cases hst : st = 1
  · subst hst
    clear hno
    go_enter Tryd.func28, Tryd.ntmps28
    go_upto_region 1 with fail
    generalize w.alloc (.cells #[.int .i64 xc, .int .i64 xn, .slice xa am.length xac, .slice xf fl.length xfc] 44) = W1 at *
    go_wp2
    exact bodyPost_ret (results_none rfl _ _ _) rfl ⟨rfl, HT.out⟩
  · have hvo : vo = true := by cases vo; exact absurd ⟨hst, rfl⟩ hno; rfl
    subst hvo
    have hst2 : (st == 1) = false := by simpa using hst
    clear hno hst
    go_enter Tryd.func28, Tryd.ntmps28
    go_upto_region 1 with fail
    generalize w.alloc (.cells #[.int .i64 xc, .int .i64 xn, .slice xa am.length xac, .slice xf fl.length xfc] 44) = W1 at *
    go_wp2
    exact bodyPost_ret (results_none rfl _ _ _) rfl ⟨rfl, HT.out⟩
set_option maxHeartbeats 8000000 in
set_option maxRecDepth 100000 in
theorem ack_abort {B b n c i k j : Nat} {w : World} {ys : List TraX} (xc xn : Int) (xa xf : Option Addr) (xac xfc : Nat) (am : List AmV) (fl : List FilV) (h : TrsOwn B w (.slice (some ⟨b, 0, none⟩) n c) ys) (hi : i < ys.length) (hk : k = i * 21) (hj : j < ys[i].ps.length) (hB : B ≤ w.heap.size) (h1 : ys[i].st ≠ 1) (h2 : ys[i].st ≠ 2) (hac : ys[i].ps[j].ac = false) : Calls Tryd.prog 28 #[.pointer (some ⟨b, k, none⟩), .int .i64 j, .agg #[.int .i64 xc, .int .i64 xn, .slice xa am.length xac, .slice xf fl.length xfc]] w fun e w' => e = .returned (.tuple #[]) ∧ Turned B w (.slice (some ⟨b, 0, none⟩) n c) ys i { ys[i].v with ps := (ys[i].ps.set j { ys[i].ps[j] with ac := true }) } w' := by
  have hb1 := below1 w (.cells #[.int .i64 xc, .int .i64 xn, .slice xa am.length xac, .slice xf fl.length xfc] 44)
  have x1 := heap_alloc_new w (.cells #[.int .i64 xc, .int .i64 xn, .slice xa am.length xac, .slice xf fl.length xfc] 44)
  have o1 := h.keep hb1
  obtain ⟨pb, cur, hpa, hpB, hpb, hpc⟩ := (o1.own _ (List.getElem_mem hi)).peers hj
  obtain ⟨hc, hf, hz⟩ := o1.cellAt hi
  have c13 : (w.alloc (.cells #[.int .i64 xc, .int .i64 xn, .slice xa am.length xac, .slice xf fl.length xfc] 44)).cell? ⟨b, k + 13, none⟩ = some (.slice (some ⟨pb, 0, none⟩) ys[i].ps.length ys[i].pc) := by rw [hk, ← hpa]; exact hc 13 _ rfl
  have c14 : (w.alloc (.cells #[.int .i64 xc, .int .i64 xn, .slice xa am.length xac, .slice xf fl.length xfc] 44)).cell? ⟨b, k + 14, none⟩ = some (.int .i64 ys[i].st) := by rw [hk]; exact hc 14 _ rfl
  have p4 : (w.alloc (.cells #[.int .i64 xc, .int .i64 xn, .slice xa am.length xac, .slice xf fl.length xfc] 44)).cell? ⟨pb, j * 5 + 4, none⟩ = some (.bool ys[i].ps[j].ac) := hpc 4 _ rfl
  have pf : ∀ j, (w.alloc (.cells #[.int .i64 xc, .int .i64 xn, .slice xa am.length xac, .slice xf fl.length xfc] 44)).frozen? ⟨pb, j, none⟩ = false := fun j => free_at hpb j
  have hpz : pb < (w.alloc (.cells #[.int .i64 xc, .int .i64 xn, .slice xa am.length xac, .slice xf fl.length xfc] 44)).heap.size := (Array.getElem?_eq_some_iff.1 hpb).1
  have hj0 : (0 : Int) ≤ (j : Int) := by omega
  have hj1 : (j : Int) < (ys[i].ps.length : Int) := by omega
  have o2 := o1.putPeer (f := 4) hi hj hpa hpb (by omega) (.bool true) { ys[i].ps[j] with ac := true } rfl
  have c14' : ((w.alloc (.cells #[.int .i64 xc, .int .i64 xn, .slice xa am.length xac, .slice xf fl.length xfc] 44)).setCell ⟨pb, j * 5 + 4, none⟩ (.bool true)).cell? ⟨b, k + 14, none⟩ = some (.int .i64 ys[i].st) := by
    have hi2 : i < (ys.set i { ys[i] with ps := (ys[i].ps.set j { ys[i].ps[j] with ac := true }) }).length := by rw [List.length_set]; exact hi
    have := (o2.cellAt hi2).1 14 _ rfl
    rw [set_at hi2] at this
    rw [hk]; exact this
  have HT : Hid (Turned B w (.slice (some ⟨b, 0, none⟩) n c) ys i { ys[i].v with ps := (ys[i].ps.set j { ys[i].ps[j] with ac := true }) } ((w.alloc (.cells #[.int .i64 xc, .int .i64 xn, .slice xa am.length xac, .slice xf fl.length xfc] 44)).setCell ⟨pb, j * 5 + 4, none⟩ (.bool true))) := ⟨⟨_, rfl, o2⟩, belowSet _ (hb1.mono hB) hpB, (KP.of hb1).trans (KP.set _ hpb notT2)⟩
  generalize ({ ys[i].v with ps := (ys[i].ps.set j { ys[i].ps[j] with ac := true }) } : TraV) = T at *
  clear hk hb1 h x1 hc hpb hpa hpc hpB o1 o2
  rw [hac] at p4
  clear hac
  generalize ys[i].ps.length = pn at *
  generalize ys[i].st = st at *
  generalize ys[i].pc = pc at *
  clear hj
  have hst2 : (st == 1) = false := by simpa using h1
  have hst3 : (st == 2) = false := by simpa using h2
  clear h1 h2
  go_enter Tryd.func28, Tryd.ntmps28
  go_upto_region 1 with fail
  generalize w.alloc (.cells #[.int .i64 xc, .int .i64 xn, .slice xa am.length xac, .slice xf fl.length xfc] 44) = W1 at *
  go_upto_region 3 with fail
  generalize W1.setCell ⟨pb, j * 5 + 4, none⟩ (.bool true) = W2 at *
  have hf2 : ∀ j, W2.frozen? ⟨b, j, none⟩ = false := fun j => by
    obtain ⟨y, _, o⟩ := HT.out.own
    exact (o.cellAt (show i < (ys.set i y).length by rw [List.length_set]; exact hi)).2.1 j
  have hz2 : b < W2.heap.size := by
    obtain ⟨y, _, o⟩ := HT.out.own
    exact (o.cellAt (show i < (ys.set i y).length by rw [List.length_set]; exact hi)).2.2
  clear hf hz c13 c14 p4 pf hpz
  go_wp2
  exact bodyPost_ret (results_none rfl _ _ _) rfl ⟨rfl, HT.out⟩
/-- What an acknowledgement makes of a transaction that commits. -/
def ackV (t : TraV) (ps : List PeeV) (num : Int) (am : List AmV) (fl : List FilV) : TraV := { t with ps := ps, an := ⟨t.an.code, if num = 0 then t.an.num else num, if am = [] then t.an.am else am, t.an.fl ++ fl⟩ }
set_option maxHeartbeats 16000000 in
set_option maxRecDepth 100000 in
theorem ack_commit {B b n c i k j : Nat} {w W0 : World} {ys : List TraX} (xc xn : Int) (xa xf : Option Addr) (xac xfc : Nat) (am : List AmV) (fl : List FilV) (h : TrsOwn B w (.slice (some ⟨b, 0, none⟩) n c) ys) (hi : i < ys.length) (hk : k = i * 21) (hj : j < ys[i].ps.length) (hA : Ams W0 (.slice xa am.length xac) am) (hF : Fls W0 (.slice xf fl.length xfc) fl) (hW : Below W0.heap.size W0 w) (h0 : W0.heap.size ≤ B) (hB : B ≤ w.heap.size) (hs : (ys[i].x.v.fl.length + fl.length) * 32 ≤ 140737488355328) (h2 : ys[i].st = 2) (hac : ys[i].ps[j].ac = false) : Calls Tryd.prog 28 #[.pointer (some ⟨b, k, none⟩), .int .i64 j, .agg #[.int .i64 xc, .int .i64 xn, .slice xa am.length xac, .slice xf fl.length xfc]] w fun e w' => e = .returned (.tuple #[]) ∧ Turned B w (.slice (some ⟨b, 0, none⟩) n c) ys i (ackV ys[i].v (ys[i].ps.set j { ys[i].ps[j] with ac := true }) xn am fl) w' := by
  have hb1 := below1 w (.cells #[.int .i64 xc, .int .i64 xn, .slice xa am.length xac, .slice xf fl.length xfc] 44)
  have x1 := heap_alloc_new w (.cells #[.int .i64 xc, .int .i64 xn, .slice xa am.length xac, .slice xf fl.length xfc] 44)
  have o1 := h.keep hb1
  obtain ⟨pb, cur, hpa, hpB, hpb, hpc⟩ := (o1.own _ (List.getElem_mem hi)).peers hj
  obtain ⟨hc, hf, hz⟩ := o1.cellAt hi
  have c13 : (w.alloc (.cells #[.int .i64 xc, .int .i64 xn, .slice xa am.length xac, .slice xf fl.length xfc] 44)).cell? ⟨b, k + 13, none⟩ = some (.slice (some ⟨pb, 0, none⟩) ys[i].ps.length ys[i].pc) := by rw [hk, ← hpa]; exact hc 13 _ rfl
  have c14 : (w.alloc (.cells #[.int .i64 xc, .int .i64 xn, .slice xa am.length xac, .slice xf fl.length xfc] 44)).cell? ⟨b, k + 14, none⟩ = some (.int .i64 ys[i].st) := by rw [hk]; exact hc 14 _ rfl
  have p4 : (w.alloc (.cells #[.int .i64 xc, .int .i64 xn, .slice xa am.length xac, .slice xf fl.length xfc] 44)).cell? ⟨pb, j * 5 + 4, none⟩ = some (.bool ys[i].ps[j].ac) := hpc 4 _ rfl
  have pf : ∀ j, (w.alloc (.cells #[.int .i64 xc, .int .i64 xn, .slice xa am.length xac, .slice xf fl.length xfc] 44)).frozen? ⟨pb, j, none⟩ = false := fun j => free_at hpb j
  have hpz : pb < (w.alloc (.cells #[.int .i64 xc, .int .i64 xn, .slice xa am.length xac, .slice xf fl.length xfc] 44)).heap.size := (Array.getElem?_eq_some_iff.1 hpb).1
  have hj0 : (0 : Int) ≤ (j : Int) := by omega
  have hj1 : (j : Int) < (ys[i].ps.length : Int) := by omega
  have o2 := o1.putPeer (f := 4) hi hj hpa hpb (by omega) (.bool true) { ys[i].ps[j] with ac := true } rfl
  have k2 := (KP.of hb1).trans (KP.set (j := j * 5 + 4) (.bool true) hpb notT2)
  have b2 := belowSet (j := j * 5 + 4) (.bool true) (hb1.mono hB) hpB
  have x2 := (KP.set (j := j * 5 + 4) (.bool true) hpb notT2) _ _ _ x1 (by unfold noT; decide) (by decide)
  have hbw : b < w.heap.size := by
    obtain ⟨cur0, hg0, -, -⟩ := h.blk
    exact (Array.getElem?_eq_some_iff.1 hg0).1
  have O2 := hideIt o2
  have K2 := hideIt k2
  have B2 := hideIt b2
  have X2 := hideIt x2
  have HA := hideIt hA
  have HF := hideIt hF
  have HW := hideIt hW
  have HK := hideIt hk
  obtain ⟨y0, hy0⟩ : ∃ y0 : TraX, y0 = { ys[i] with ps := (ys[i].ps.set j { ys[i].ps[j] with ac := true }) } := ⟨_, rfl⟩
  rw [← hy0] at O2
  have EY0 : Hid (ackV ys[i].v (ys[i].ps.set j { ys[i].ps[j] with ac := true }) xn am fl = ackV y0.v y0.v.ps xn am fl ∧ y0.st = 2 ∧ y0.v.ps = (ys[i].ps.set j { ys[i].ps[j] with ac := true }) ∧ (y0.x.v.fl.length + fl.length) * 32 ≤ 140737488355328 ∧ y0.v = { ys[i].v with ps := (ys[i].ps.set j { ys[i].ps[j] with ac := true }) }) := by rw [hy0]; exact ⟨rfl, h2, rfl, hs, rfl⟩
  rw [hac] at p4
  rw [h2] at c14
  have HI2 : Hid (i < (ys.set i y0).length) := by rw [List.length_set]; exact hi
  have HY2 : Hid ((ys.set i y0)[i]'HI2.out = y0) := set_at _
  have HS2 : Hid (∀ z, (ys.set i y0).set i z = ys.set i z) := fun z => List.set_set ..
  clear hk hb1 h x1 hc hpb hpa hpc hpB o1 o2 k2 b2 x2 hA hF hW hs h2 hac hy0
  generalize hpn : ys[i].ps.length = pn at c13 hj1
  generalize ys[i].pc = pc at c13
  clear hpn
  go_enter Tryd.func28, Tryd.ntmps28
  go_upto_region 1 with fail
  generalize w.alloc (.cells #[.int .i64 xc, .int .i64 xn, .slice xa am.length xac, .slice xf fl.length xfc] 44) = W1 at *
  go_upto_region 3 with fail
  generalize W1.setCell ⟨pb, j * 5 + 4, none⟩ (.bool true) = W2 at *
  clear hf hz c13 c14 p4 pf hpz
  obtain ⟨hc, hf, hz⟩ := O2.out.cellAt HI2.out
  rw [HY2.out] at hc
  have c14 : W2.cell? ⟨b, k + 14, none⟩ = some (.int .i64 2) := by rw [HK.out, ← EY0.out.2.1]; exact hc 14 _ rfl
  have c18 : W2.cell? ⟨b, k + 18, none⟩ = some (.int .i64 y0.x.v.num) := by rw [HK.out]; exact hc 18 _ rfl
  obtain ⟨⟨q0, q1, q2, q3⟩, qf, qz⟩ := at4 X2.out
  have oY := O2.out.own _ (List.getElem_mem HI2.out)
  rw [HY2.out] at oY
  by_cases hn : xn = 0
  · subst hn
    obtain ⟨y, ey⟩ : ∃ y : TraX, y = y0 := ⟨_, rfl⟩
    have EY : Hid (y.v = { ys[i].v with ps := (ys[i].ps.set j { ys[i].ps[j] with ac := true }) }) := by rw [ey]; exact EY0.out.2.2.2.2
    have Hs : Hid ((y.x.v.fl.length + fl.length) * 32 ≤ 140737488355328) := by rw [ey]; exact EY0.out.2.2.2.1
    rw [← ey] at O2
    clear ey oY hc HY2 HI2 HS2 EY0
    go_upto_region 6 with fail
    have O5 := O2
    have K5 := K2
    have B5 := B2
    have X5 := X2
    clear O2 K2 B2 X2 c14 c18 q0 q1 q2 q3 qf qz hf hz
    have HI5 : Hid (i < (ys.set i y).length) := by rw [List.length_set]; exact hi
    have HY5 : Hid ((ys.set i y)[i]'HI5.out = y) := set_at _
    have HS5 : Hid (∀ z, (ys.set i y).set i z = ys.set i z) := fun z => List.set_set ..
    have Od := hideIt (O5.out.keep (Below.refl _ _).drew)
    obtain ⟨hc, hf, hz⟩ := Od.out.cellAt HI5.out
    rw [HY5.out] at hc
    have c20 : W2.drew.cell? ⟨b, k + 20, none⟩ = some (.slice y.x.fa y.x.v.fl.length y.x.fc) := by rw [HK.out]; exact hc 20 _ rfl
    obtain ⟨⟨q0, q1, q2, q3⟩, qf, qz⟩ := at4 (blkK X5.out (Below.refl _ _).drew)
    have hoY := Od.out.own _ (List.getElem_mem HI5.out)
    rw [HY5.out] at hoY
    have hsz := B5.out.size
    have hbd : Below B w W2.drew := B5.out.drew
    have hfd : Fls W2.drew (.slice xf fl.length xfc) fl := HF.out.keep (HW.out.trans (hbd.mono h0))
    obtain ⟨a3, c3, W6, hrun, how, hgr, hat⟩ := appA (enc := filE) (t := 42) filK fil1 Tryd.underlying42 info81 rfl (by omega) (by omega) W2.drew B (.slice y.x.fa y.x.v.fl.length y.x.fc) y.x.v.fl fl xf xfc (Nat.le_trans hB hsz) hoY.x.f hfd Hs.out
    have o7 := Od.out.putFills HI5.out fl a3 c3 (by rw [HY5.out]; exact how) (by rw [HY5.out]; exact hgr) (by rw [HY5.out]; exact hat) (by rw [HY5.out]; exact Hs.out)
    rw [HS5.out, ← HK.out, HY5.out] at o7
    obtain ⟨cur5, hg5, hbB, -⟩ := Od.out.blk
    have hg6 : W6.heap[b]? = some (.cells cur5 52 (0, 0)) := box_type hgr hoY.x.f hg5 (by decide)
    have kA : KP W2.drew W6 := KP.app hgr hoY.x.f notT4
    have ks := KP.set (j := k + 20) (.slice a3 (y.x.v.fl ++ fl).length c3) hg6 notT1
    have bA : Below B w W6 := Below.grown hbd hgr (Nat.le_trans hB hsz) (fun kk e => by
      obtain ⟨_, ⟨e0, _⟩ | ⟨g, cap, cur, hv, hb, hg, _⟩⟩ := hoY.x.f
      · have e1 : y.x.fl.ownBlock = some kk := e
        rw [e0] at e1; cases e1
      · have e1 : y.x.fl.ownBlock = some kk := e
        rw [hv] at e1; cases e1; exact hb)
    have x6 := kA _ _ _ (blkK X5.out (Below.refl _ _).drew) (by unfold noT; decide) (by decide)
    obtain ⟨⟨r0, r1, r2, r3⟩, rf, rz⟩ := at4 x6
    have cu : ∃ u, W6.cell? ⟨b, k + 20, none⟩ = some u := by
      rw [cell_at hg6, ← cell_at hg5]
      exact ⟨_, c20⟩
    obtain ⟨u6, cu⟩ := cu
    have hf6 := fun j => free_at hg6 j
    have hz6 := (Array.getElem?_eq_some_iff.1 hg6).1
    have O7 := hideIt o7
    have K7 := hideIt (((K5.out.trans (KP.of (Below.refl _ _).drew)).trans kA).trans ks)
    have B7 := hideIt (belowSet (j := k + 20) (.slice a3 (y.x.v.fl ++ fl).length c3) bA hbB)
    have X7 := hideIt (ks _ _ _ x6 (by unfold noT; decide) (by decide))
    have HRUN := hideIt hrun
    have en : b ≠ w.heap.size := by omega
    clear hrun o7 ks bA x6 kA hg6 hg5 hbB how hgr hat hoY hc Od O5 K5 B5 X5 hbd hfd hsz HS5 HY5 HI5
    generalize (y.x.v.fl ++ fl).length = fn at *
    refine wp_region_held_drew (S := fun W => W.cell? ⟨w.heap.size, 3, none⟩ = some (.slice xf fl.length xfc)) (by kernel_rfl) (by go_keep) (fun hHeld => ?_)
    refine wpAnyH_take (i := 0) (oi := ⟨some 42, _, _, _, _, _⟩) (v := ?_) rfl (by kernel_rfl) (by kernel_rfl) (by kernel_rfl) (fun _ _ _ h => h) (Or.inl ⟨by rfl, ?_⟩) (by assumption) ?_
    rotate_left
    · intro w5 hSw
      (try dsimp only at hSw)
      go_simp
      (try with_reducible rfl)
    try simp only [Act.put, List.setIfInBounds_toArray, List.set_cons_zero, List.set_cons_succ]
    refine wpAnyH_take (i := 1) (oi := ⟨some 43, _, _, _, _, _⟩) (v := ?_) rfl (by kernel_rfl) (by kernel_rfl) (by kernel_rfl) (fun _ _ _ h => h) (Or.inl ⟨by rfl, ?_⟩) (by assumption) ?_
    rotate_left
    · intro w5 hSw
      (try dsimp only at hSw)
      go_simp
      (try with_reducible rfl)
    try simp only [Act.put, List.setIfInBounds_toArray, List.set_cons_zero, List.set_cons_succ]
    refine wpAnyH_take (i := 2) (oi := ⟨some 44, _, _, _, _, _⟩) (v := ?_) rfl (by kernel_rfl) (by kernel_rfl) (by kernel_rfl) (fun _ _ _ h => h) (Or.inl ⟨by rfl, ?_⟩) (by assumption) ?_
    rotate_left
    · intro w5 hSw
      (try dsimp only at hSw)
      go_simp
      (try with_reducible rfl)
    try simp only [Act.put, List.setIfInBounds_toArray, List.set_cons_zero, List.set_cons_succ]
    refine wpAnyH_take (i := 3) (oi := ⟨some 45, _, _, _, _, _⟩) (v := ?_) rfl (by kernel_rfl) (by kernel_rfl) (by kernel_rfl) (fun _ _ _ h => h) (Or.inl ⟨by rfl, ?_⟩) (by assumption) ?_
    rotate_left
    · intro w5 hSw
      (try dsimp only at hSw)
      go_simp
      (try with_reducible rfl)
    try simp only [Act.put, List.setIfInBounds_toArray, List.set_cons_zero, List.set_cons_succ]
    refine wpAnyH_take (i := 4) (oi := ⟨some 46, _, _, _, _, _⟩) (v := ?_) rfl (by kernel_rfl) (by kernel_rfl) (by kernel_rfl) (fun _ _ _ h => h) (Or.inl ⟨by rfl, ?_⟩) (by assumption) ?_
    rotate_left
    · intro w5 hSw
      (try dsimp only at hSw)
      go_simp
      (try with_reducible rfl)
    try simp only [Act.put, List.setIfInBounds_toArray, List.set_cons_zero, List.set_cons_succ]
    refine wpAnyH_take (i := 6) (oi := ⟨some 48, _, _, _, _, _⟩) (v := ?_) rfl (by kernel_rfl) (by kernel_rfl) (by kernel_rfl) (fun _ _ _ h => h) (Or.inl ⟨by rfl, ?_⟩) (by assumption) ?_
    rotate_left
    · intro w5 hSw
      (try dsimp only at hSw)
      go_simp
      (try with_reducible rfl)
    try simp only [Act.put, List.setIfInBounds_toArray, List.set_cons_zero, List.set_cons_succ]
    refine wpAnyH_take (i := 7) (oi := ⟨some 49, _, _, _, _, _⟩) (v := ?_) rfl (by kernel_rfl) (by kernel_rfl) (by kernel_rfl) (fun _ _ _ h => h) (Or.inl ⟨by rfl, ?_⟩) (by assumption) ?_
    rotate_left
    · intro w5 hSw
      (try dsimp only at hSw)
      go_simp
      (try with_reducible rfl)
    try simp only [Act.put, List.setIfInBounds_toArray, List.set_cons_zero, List.set_cons_succ]
    refine wpAnyH_ready (rs := [5]) (by kernel_rfl) (by simp) ?_
    refine (AllReadyH.cons (o := ⟨some 47, _, _, _, _, _⟩) rfl (fun Kx hK => ?_) AllReadyH.nil)
    go_simp
    refine hK.out _ _ (by go_keep) (fun hHeld => ?_)
    clear hK Kx
    try simp only [Act.put, List.setIfInBounds_toArray, List.set_cons_zero, List.set_cons_succ]
    refine wpAnyH_ready (rs := [8]) (by kernel_rfl) (by simp) ?_
    refine (AllReadyH.cons (o := ⟨some 50, _, _, _, _, _⟩) rfl (fun Kx hK => ?_) AllReadyH.nil)
    refine step_app_runK rfl _ _ 42 42 rfl _ _ rfl rfl HRUN.out ?_
    refine hK.out _ _ (by go_keep) (fun hHeld => ?_)
    clear hK Kx
    try simp only [Act.put, List.setIfInBounds_toArray, List.set_cons_zero, List.set_cons_succ]
    refine wpAnyH_take (i := 9) (oi := ⟨some 51, _, _, _, _, _⟩) (v := ?_) rfl (by kernel_rfl) (by kernel_rfl) (by kernel_rfl) (fun _ _ _ h => h) (Or.inl ⟨by rfl, ?_⟩) (by assumption) ?_
    rotate_left
    · intro w5 hSw
      (try dsimp only at hSw)
      go_simp
      (try with_reducible rfl)
    try simp only [Act.put, List.setIfInBounds_toArray, List.set_cons_zero, List.set_cons_succ]
    refine wpAnyH_take (i := 10) (oi := ⟨some 52, _, _, _, _, _⟩) (v := ?_) rfl (by kernel_rfl) (by kernel_rfl) (by kernel_rfl) (fun _ _ _ h => h) (Or.inl ⟨by rfl, ?_⟩) (by assumption) ?_
    rotate_left
    · intro w5 hSw
      (try dsimp only at hSw)
      go_simp
      (try with_reducible rfl)
    try simp only [Act.put, List.setIfInBounds_toArray, List.set_cons_zero, List.set_cons_succ]
    refine wpAnyH_take (i := 11) (oi := ⟨some 53, _, _, _, _, _⟩) (v := ?_) rfl (by kernel_rfl) (by kernel_rfl) (by kernel_rfl) (fun _ _ _ h => h) (Or.inl ⟨by rfl, ?_⟩) (by assumption) ?_
    rotate_left
    · intro w5 hSw
      (try dsimp only at hSw)
      go_simp
      (try with_reducible rfl)
    try simp only [Act.put, List.setIfInBounds_toArray, List.set_cons_zero, List.set_cons_succ]
    refine wpAnyH_ready (rs := [12]) (by kernel_rfl) (by simp) ?_
    refine (AllReadyH.cons (o := ⟨none, _, _, _, _, _⟩) rfl (fun Kx hK => ?_) AllReadyH.nil)
    go_simp
    refine hK.out _ _ (by go_keep) (fun hHeld => ?_)
    clear hK Kx
    try simp only [Act.put, List.setIfInBounds_toArray, List.set_cons_zero, List.set_cons_succ]
    refine wpAnyH_done (by kernel_rfl) ?_ _
    clear HRUN q0 q1 q2 q3 qf qz c20 hf hz r0 r1 r2 r3 rf rz cu hf6 hz6
    (repeat clear hHeld)
    generalize W6.setCell ⟨b, k + 20, none⟩ (.slice a3 fn c3) = W7 at *
    obtain ⟨⟨q0, q1, q2, q3⟩, qf, qz⟩ := at4 X7.out
    obtain ⟨z, hz⟩ : ∃ z : TraX, z = { y with x := { y.x with v := { y.x.v with fl := y.x.v.fl ++ fl }, fa := a3, fc := c3 } } := ⟨_, rfl⟩
    rw [← hz] at O7
    have EZ : Hid (z.v = { y.v with an := { y.v.an with fl := y.v.an.fl ++ fl } }) := by rw [hz]; rfl
    clear hz
    by_cases hal0 : am = []
    · subst hal0
      have HT : Hid (Turned B w (.slice (some ⟨b, 0, none⟩) n c) ys i (ackV ys[i].v (ys[i].ps.set j { ys[i].ps[j] with ac := true }) 0 [] fl) W7) := ⟨⟨z, by rw [EZ.out, EY.out]; rfl, O7.out⟩, B7.out, K7.out⟩
      clear O7 B7 K7
      rw [List.length_nil] at q2
      go_wp2
      exact bodyPost_end (results_none rfl _ _ _) rfl ⟨rfl, HT.out⟩
    · have hal : (0 : Int) < (am.length : Int) := by
        have := List.length_pos_iff.2 hal0
        omega
      have HAL := hideIt hal0
      clear hal0
      have HI7 : Hid (i < (ys.set i z).length) := by rw [List.length_set]; exact hi
      have HY7 : Hid ((ys.set i z)[i]'HI7.out = z) := set_at _
      have HS7 : Hid (∀ t, (ys.set i z).set i t = ys.set i t) := fun t => List.set_set ..
      have HA7 := hideIt (HA.out.keep (HW.out.trans (B7.out.mono h0)))
      have HT : Hid (∀ a1 c1 w', w'.ownsRow W7.heap.size 72 2 (.slice a1 am.length c1) am.length (celC amE am) → Below W7.heap.size W7 w' → Turned B w (.slice (some ⟨b, 0, none⟩) n c) ys i (ackV ys[i].v (ys[i].ps.set j { ys[i].ps[j] with ac := true }) 0 am fl) (w'.setCell ⟨b, k + 19, none⟩ (.slice a1 am.length c1)) ∧ (∃ u, w'.cell? ⟨b, k + 19, none⟩ = some u) ∧ (∀ j, w'.frozen? ⟨b, j, none⟩ = false) ∧ b < w'.heap.size) := by
        intro a1 c1 w' ho hb
        have o8 := O7.out.keep hb
        obtain ⟨cur8, hg8, hbB, -⟩ := o8.blk
        have hsz := B7.out.size
        have hoZ := o8.own _ (List.getElem_mem HI7.out)
        rw [HY7.out] at hoZ
        have o9 := o8.put' HI7.out (j := 19) (by omega) (.slice a1 am.length c1) { z with x := { z.x with v := { z.x.v with am := am }, aa := a1, ac := c1 } } (by rw [HY7.out]; rfl) ⟨hoZ.p, hoZ.m, hoZ.c, ⟨own_base ho (by omega), hoZ.x.f, HA7.out.1, hoZ.x.sf⟩, hoZ.sp, hoZ.sm⟩ (by rw [HY7.out]) (by rw [HY7.out]) (by rw [HY7.out])
        rw [HS7.out, ← HK.out] at o9
        refine ⟨⟨⟨_, ?_, o9⟩, belowSet _ (B7.out.trans (hb.mono (by omega))) hbB, (K7.out.trans (KP.of hb)).trans (KP.set _ hg8 notT1)⟩, ⟨_, by rw [HK.out]; exact (o8.cellAt HI7.out).1 19 _ rfl⟩, fun j => free_at hg8 j, (Array.getElem?_eq_some_iff.1 hg8).1⟩
        have : TraX.v { z with x := { z.x with v := { z.x.v with am := am }, aa := a1, ac := c1 } } = { z.v with an := { z.v.an with am := am } } := rfl
        rw [this, EZ.out, EY.out]
        unfold ackV
        rw [if_neg HAL.out]
        rfl
      have HCl := hideIt (clone_am _ am W7 HA7.out)
      clear O7 B7 K7 HA7 HS7 HY7 HI7
      go_wp2_with fail
      refine HCl.out.mono ?_
      rintro e w8 ⟨a1, c1, rfl, ho, hb⟩
      dsimp only
      obtain ⟨ht, ⟨u9, c19⟩, hf9, hz9⟩ := HT.out a1 c1 w8 ho hb
      have HT9 := hideIt ht
      clear ht ho hb HT HCl q0 q1 q2 q3 qf qz
      go_wp2
      exact bodyPost_end (results_none rfl _ _ _) rfl ⟨rfl, HT9.out⟩
  · have o5 := O2.out.put' HI2.out (j := 18) (by omega) (.int .i64 xn) { y0 with x := { y0.x with v := { y0.x.v with num := xn } } } (by rw [HY2.out]; rfl) ⟨oY.p, oY.m, oY.c, ⟨oY.x.a, oY.x.f, oY.x.sa, oY.x.sf⟩, oY.sp, oY.sm⟩ (by rw [HY2.out]) (by rw [HY2.out]) (by rw [HY2.out])
    rw [HS2.out, ← HK.out] at o5
    obtain ⟨cur2, hg2, hbB, -⟩ := O2.out.blk
    have ks := KP.set (j := k + 18) (.int .i64 xn) hg2 notT1
    obtain ⟨y, ey⟩ : ∃ y : TraX, y = { y0 with x := { y0.x with v := { y0.x.v with num := xn } } } := ⟨_, rfl⟩
    rw [← ey] at o5
    have EY : Hid (y.v = { ys[i].v with ps := (ys[i].ps.set j { ys[i].ps[j] with ac := true }), an := { ys[i].v.an with num := xn } }) := by
      show y.v = _
      have e1 : TraX.v { y0 with x := { y0.x with v := { y0.x.v with num := xn } } } = { y0.v with an := { y0.v.an with num := xn } } := rfl
      rw [ey, e1, EY0.out.2.2.2.2]
    have Hs : Hid ((y.x.v.fl.length + fl.length) * 32 ≤ 140737488355328) := by rw [ey]; exact EY0.out.2.2.2.1
    have O5 := hideIt o5
    have K5 := hideIt (K2.out.trans ks)
    have B5 := hideIt (belowSet (j := k + 18) (.int .i64 xn) B2.out hbB)
    have X5 := hideIt (ks _ _ _ X2.out (by unfold noT; decide) (by decide))
    have hn2 : (xn == 0) = false := by simpa using hn
    have HN0 := hideIt hn
    clear ey oY hc HY2 HI2 HS2 EY0 o5 hg2 hbB ks hn O2 K2 B2 X2
    go_upto_region 6 with fail
    generalize W2.setCell ⟨b, k + 18, none⟩ (.int .i64 xn) = W5 at *
    clear c14 c18 q0 q1 q2 q3 qf qz hf hz hn2
    have HI5 : Hid (i < (ys.set i y).length) := by rw [List.length_set]; exact hi
    have HY5 : Hid ((ys.set i y)[i]'HI5.out = y) := set_at _
    have HS5 : Hid (∀ z, (ys.set i y).set i z = ys.set i z) := fun z => List.set_set ..
    have Od := hideIt (O5.out.keep (Below.refl _ _).drew)
    obtain ⟨hc, hf, hz⟩ := Od.out.cellAt HI5.out
    rw [HY5.out] at hc
    have c20 : W5.drew.cell? ⟨b, k + 20, none⟩ = some (.slice y.x.fa y.x.v.fl.length y.x.fc) := by rw [HK.out]; exact hc 20 _ rfl
    obtain ⟨⟨q0, q1, q2, q3⟩, qf, qz⟩ := at4 (blkK X5.out (Below.refl _ _).drew)
    have hoY := Od.out.own _ (List.getElem_mem HI5.out)
    rw [HY5.out] at hoY
    have hsz := B5.out.size
    have hbd : Below B w W5.drew := B5.out.drew
    have hfd : Fls W5.drew (.slice xf fl.length xfc) fl := HF.out.keep (HW.out.trans (hbd.mono h0))
    obtain ⟨a3, c3, W6, hrun, how, hgr, hat⟩ := appA (enc := filE) (t := 42) filK fil1 Tryd.underlying42 info81 rfl (by omega) (by omega) W5.drew B (.slice y.x.fa y.x.v.fl.length y.x.fc) y.x.v.fl fl xf xfc (Nat.le_trans hB hsz) hoY.x.f hfd Hs.out
    have o7 := Od.out.putFills HI5.out fl a3 c3 (by rw [HY5.out]; exact how) (by rw [HY5.out]; exact hgr) (by rw [HY5.out]; exact hat) (by rw [HY5.out]; exact Hs.out)
    rw [HS5.out, ← HK.out, HY5.out] at o7
    obtain ⟨cur5, hg5, hbB, -⟩ := Od.out.blk
    have hg6 : W6.heap[b]? = some (.cells cur5 52 (0, 0)) := box_type hgr hoY.x.f hg5 (by decide)
    have kA : KP W5.drew W6 := KP.app hgr hoY.x.f notT4
    have ks := KP.set (j := k + 20) (.slice a3 (y.x.v.fl ++ fl).length c3) hg6 notT1
    have bA : Below B w W6 := Below.grown hbd hgr (Nat.le_trans hB hsz) (fun kk e => by
      obtain ⟨_, ⟨e0, _⟩ | ⟨g, cap, cur, hv, hb, hg, _⟩⟩ := hoY.x.f
      · have e1 : y.x.fl.ownBlock = some kk := e
        rw [e0] at e1; cases e1
      · have e1 : y.x.fl.ownBlock = some kk := e
        rw [hv] at e1; cases e1; exact hb)
    have x6 := kA _ _ _ (blkK X5.out (Below.refl _ _).drew) (by unfold noT; decide) (by decide)
    obtain ⟨⟨r0, r1, r2, r3⟩, rf, rz⟩ := at4 x6
    have cu : ∃ u, W6.cell? ⟨b, k + 20, none⟩ = some u := by
      rw [cell_at hg6, ← cell_at hg5]
      exact ⟨_, c20⟩
    obtain ⟨u6, cu⟩ := cu
    have hf6 := fun j => free_at hg6 j
    have hz6 := (Array.getElem?_eq_some_iff.1 hg6).1
    have O7 := hideIt o7
    have K7 := hideIt (((K5.out.trans (KP.of (Below.refl _ _).drew)).trans kA).trans ks)
    have B7 := hideIt (belowSet (j := k + 20) (.slice a3 (y.x.v.fl ++ fl).length c3) bA hbB)
    have X7 := hideIt (ks _ _ _ x6 (by unfold noT; decide) (by decide))
    have HRUN := hideIt hrun
    have en : b ≠ w.heap.size := by omega
    clear hrun o7 ks bA x6 kA hg6 hg5 hbB how hgr hat hoY hc Od O5 K5 B5 X5 hbd hfd hsz HS5 HY5 HI5
    generalize (y.x.v.fl ++ fl).length = fn at *
    refine wp_region_held_drew (S := fun W => W.cell? ⟨w.heap.size, 3, none⟩ = some (.slice xf fl.length xfc)) (by kernel_rfl) (by go_keep) (fun hHeld => ?_)
    refine wpAnyH_take (i := 0) (oi := ⟨some 42, _, _, _, _, _⟩) (v := ?_) rfl (by kernel_rfl) (by kernel_rfl) (by kernel_rfl) (fun _ _ _ h => h) (Or.inl ⟨by rfl, ?_⟩) (by assumption) ?_
    rotate_left
    · intro w5 hSw
      (try dsimp only at hSw)
      go_simp
      (try with_reducible rfl)
    try simp only [Act.put, List.setIfInBounds_toArray, List.set_cons_zero, List.set_cons_succ]
    refine wpAnyH_take (i := 1) (oi := ⟨some 43, _, _, _, _, _⟩) (v := ?_) rfl (by kernel_rfl) (by kernel_rfl) (by kernel_rfl) (fun _ _ _ h => h) (Or.inl ⟨by rfl, ?_⟩) (by assumption) ?_
    rotate_left
    · intro w5 hSw
      (try dsimp only at hSw)
      go_simp
      (try with_reducible rfl)
    try simp only [Act.put, List.setIfInBounds_toArray, List.set_cons_zero, List.set_cons_succ]
    refine wpAnyH_take (i := 2) (oi := ⟨some 44, _, _, _, _, _⟩) (v := ?_) rfl (by kernel_rfl) (by kernel_rfl) (by kernel_rfl) (fun _ _ _ h => h) (Or.inl ⟨by rfl, ?_⟩) (by assumption) ?_
    rotate_left
    · intro w5 hSw
      (try dsimp only at hSw)
      go_simp
      (try with_reducible rfl)
    try simp only [Act.put, List.setIfInBounds_toArray, List.set_cons_zero, List.set_cons_succ]
    refine wpAnyH_take (i := 3) (oi := ⟨some 45, _, _, _, _, _⟩) (v := ?_) rfl (by kernel_rfl) (by kernel_rfl) (by kernel_rfl) (fun _ _ _ h => h) (Or.inl ⟨by rfl, ?_⟩) (by assumption) ?_
    rotate_left
    · intro w5 hSw
      (try dsimp only at hSw)
      go_simp
      (try with_reducible rfl)
    try simp only [Act.put, List.setIfInBounds_toArray, List.set_cons_zero, List.set_cons_succ]
    refine wpAnyH_take (i := 4) (oi := ⟨some 46, _, _, _, _, _⟩) (v := ?_) rfl (by kernel_rfl) (by kernel_rfl) (by kernel_rfl) (fun _ _ _ h => h) (Or.inl ⟨by rfl, ?_⟩) (by assumption) ?_
    rotate_left
    · intro w5 hSw
      (try dsimp only at hSw)
      go_simp
      (try with_reducible rfl)
    try simp only [Act.put, List.setIfInBounds_toArray, List.set_cons_zero, List.set_cons_succ]
    refine wpAnyH_take (i := 6) (oi := ⟨some 48, _, _, _, _, _⟩) (v := ?_) rfl (by kernel_rfl) (by kernel_rfl) (by kernel_rfl) (fun _ _ _ h => h) (Or.inl ⟨by rfl, ?_⟩) (by assumption) ?_
    rotate_left
    · intro w5 hSw
      (try dsimp only at hSw)
      go_simp
      (try with_reducible rfl)
    try simp only [Act.put, List.setIfInBounds_toArray, List.set_cons_zero, List.set_cons_succ]
    refine wpAnyH_take (i := 7) (oi := ⟨some 49, _, _, _, _, _⟩) (v := ?_) rfl (by kernel_rfl) (by kernel_rfl) (by kernel_rfl) (fun _ _ _ h => h) (Or.inl ⟨by rfl, ?_⟩) (by assumption) ?_
    rotate_left
    · intro w5 hSw
      (try dsimp only at hSw)
      go_simp
      (try with_reducible rfl)
    try simp only [Act.put, List.setIfInBounds_toArray, List.set_cons_zero, List.set_cons_succ]
    refine wpAnyH_ready (rs := [5]) (by kernel_rfl) (by simp) ?_
    refine (AllReadyH.cons (o := ⟨some 47, _, _, _, _, _⟩) rfl (fun Kx hK => ?_) AllReadyH.nil)
    go_simp
    refine hK.out _ _ (by go_keep) (fun hHeld => ?_)
    clear hK Kx
    try simp only [Act.put, List.setIfInBounds_toArray, List.set_cons_zero, List.set_cons_succ]
    refine wpAnyH_ready (rs := [8]) (by kernel_rfl) (by simp) ?_
    refine (AllReadyH.cons (o := ⟨some 50, _, _, _, _, _⟩) rfl (fun Kx hK => ?_) AllReadyH.nil)
    refine step_app_runK rfl _ _ 42 42 rfl _ _ rfl rfl HRUN.out ?_
    refine hK.out _ _ (by go_keep) (fun hHeld => ?_)
    clear hK Kx
    try simp only [Act.put, List.setIfInBounds_toArray, List.set_cons_zero, List.set_cons_succ]
    refine wpAnyH_take (i := 9) (oi := ⟨some 51, _, _, _, _, _⟩) (v := ?_) rfl (by kernel_rfl) (by kernel_rfl) (by kernel_rfl) (fun _ _ _ h => h) (Or.inl ⟨by rfl, ?_⟩) (by assumption) ?_
    rotate_left
    · intro w5 hSw
      (try dsimp only at hSw)
      go_simp
      (try with_reducible rfl)
    try simp only [Act.put, List.setIfInBounds_toArray, List.set_cons_zero, List.set_cons_succ]
    refine wpAnyH_take (i := 10) (oi := ⟨some 52, _, _, _, _, _⟩) (v := ?_) rfl (by kernel_rfl) (by kernel_rfl) (by kernel_rfl) (fun _ _ _ h => h) (Or.inl ⟨by rfl, ?_⟩) (by assumption) ?_
    rotate_left
    · intro w5 hSw
      (try dsimp only at hSw)
      go_simp
      (try with_reducible rfl)
    try simp only [Act.put, List.setIfInBounds_toArray, List.set_cons_zero, List.set_cons_succ]
    refine wpAnyH_take (i := 11) (oi := ⟨some 53, _, _, _, _, _⟩) (v := ?_) rfl (by kernel_rfl) (by kernel_rfl) (by kernel_rfl) (fun _ _ _ h => h) (Or.inl ⟨by rfl, ?_⟩) (by assumption) ?_
    rotate_left
    · intro w5 hSw
      (try dsimp only at hSw)
      go_simp
      (try with_reducible rfl)
    try simp only [Act.put, List.setIfInBounds_toArray, List.set_cons_zero, List.set_cons_succ]
    refine wpAnyH_ready (rs := [12]) (by kernel_rfl) (by simp) ?_
    refine (AllReadyH.cons (o := ⟨none, _, _, _, _, _⟩) rfl (fun Kx hK => ?_) AllReadyH.nil)
    go_simp
    refine hK.out _ _ (by go_keep) (fun hHeld => ?_)
    clear hK Kx
    try simp only [Act.put, List.setIfInBounds_toArray, List.set_cons_zero, List.set_cons_succ]
    refine wpAnyH_done (by kernel_rfl) ?_ _
    clear HRUN q0 q1 q2 q3 qf qz c20 hf hz r0 r1 r2 r3 rf rz cu hf6 hz6
    (repeat clear hHeld)
    generalize W6.setCell ⟨b, k + 20, none⟩ (.slice a3 fn c3) = W7 at *
    obtain ⟨⟨q0, q1, q2, q3⟩, qf, qz⟩ := at4 X7.out
    obtain ⟨z, hz⟩ : ∃ z : TraX, z = { y with x := { y.x with v := { y.x.v with fl := y.x.v.fl ++ fl }, fa := a3, fc := c3 } } := ⟨_, rfl⟩
    rw [← hz] at O7
    have EZ : Hid (z.v = { y.v with an := { y.v.an with fl := y.v.an.fl ++ fl } }) := by rw [hz]; rfl
    clear hz
    by_cases hal0 : am = []
    · subst hal0
      have HT : Hid (Turned B w (.slice (some ⟨b, 0, none⟩) n c) ys i (ackV ys[i].v (ys[i].ps.set j { ys[i].ps[j] with ac := true }) xn [] fl) W7) := ⟨⟨z, by rw [EZ.out, EY.out]; unfold ackV; rw [if_neg HN0.out]; rfl, O7.out⟩, B7.out, K7.out⟩
      clear O7 B7 K7
      rw [List.length_nil] at q2
      go_wp2
      exact bodyPost_end (results_none rfl _ _ _) rfl ⟨rfl, HT.out⟩
    · have hal : (0 : Int) < (am.length : Int) := by
        have := List.length_pos_iff.2 hal0
        omega
      have HAL := hideIt hal0
      clear hal0
      have HI7 : Hid (i < (ys.set i z).length) := by rw [List.length_set]; exact hi
      have HY7 : Hid ((ys.set i z)[i]'HI7.out = z) := set_at _
      have HS7 : Hid (∀ t, (ys.set i z).set i t = ys.set i t) := fun t => List.set_set ..
      have HA7 := hideIt (HA.out.keep (HW.out.trans (B7.out.mono h0)))
      have HT : Hid (∀ a1 c1 w', w'.ownsRow W7.heap.size 72 2 (.slice a1 am.length c1) am.length (celC amE am) → Below W7.heap.size W7 w' → Turned B w (.slice (some ⟨b, 0, none⟩) n c) ys i (ackV ys[i].v (ys[i].ps.set j { ys[i].ps[j] with ac := true }) xn am fl) (w'.setCell ⟨b, k + 19, none⟩ (.slice a1 am.length c1)) ∧ (∃ u, w'.cell? ⟨b, k + 19, none⟩ = some u) ∧ (∀ j, w'.frozen? ⟨b, j, none⟩ = false) ∧ b < w'.heap.size) := by
        intro a1 c1 w' ho hb
        have o8 := O7.out.keep hb
        obtain ⟨cur8, hg8, hbB, -⟩ := o8.blk
        have hsz := B7.out.size
        have hoZ := o8.own _ (List.getElem_mem HI7.out)
        rw [HY7.out] at hoZ
        have o9 := o8.put' HI7.out (j := 19) (by omega) (.slice a1 am.length c1) { z with x := { z.x with v := { z.x.v with am := am }, aa := a1, ac := c1 } } (by rw [HY7.out]; rfl) ⟨hoZ.p, hoZ.m, hoZ.c, ⟨own_base ho (by omega), hoZ.x.f, HA7.out.1, hoZ.x.sf⟩, hoZ.sp, hoZ.sm⟩ (by rw [HY7.out]) (by rw [HY7.out]) (by rw [HY7.out])
        rw [HS7.out, ← HK.out] at o9
        refine ⟨⟨⟨_, ?_, o9⟩, belowSet _ (B7.out.trans (hb.mono (by omega))) hbB, (K7.out.trans (KP.of hb)).trans (KP.set _ hg8 notT1)⟩, ⟨_, by rw [HK.out]; exact (o8.cellAt HI7.out).1 19 _ rfl⟩, fun j => free_at hg8 j, (Array.getElem?_eq_some_iff.1 hg8).1⟩
        have : TraX.v { z with x := { z.x with v := { z.x.v with am := am }, aa := a1, ac := c1 } } = { z.v with an := { z.v.an with am := am } } := rfl
        rw [this, EZ.out, EY.out]
        unfold ackV
        rw [if_neg HN0.out, if_neg HAL.out]
        try rfl
      have HCl := hideIt (clone_am _ am W7 HA7.out)
      clear O7 B7 K7 HA7 HS7 HY7 HI7
      go_wp2_with fail
      refine HCl.out.mono ?_
      rintro e w8 ⟨a1, c1, rfl, ho, hb⟩
      dsimp only
      obtain ⟨ht, ⟨u9, c19⟩, hf9, hz9⟩ := HT.out a1 c1 w8 ho hb
      have HT9 := hideIt ht
      clear ht ho hb HT HCl q0 q1 q2 q3 qf qz
      go_wp2
      exact bodyPost_end (results_none rfl _ _ _) rfl ⟨rfl, HT9.out⟩
end Go.Proofs.YtilinemcmgjiiaaDoor
