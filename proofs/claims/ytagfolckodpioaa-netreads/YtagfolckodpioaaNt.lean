/- A net in memory, a packet added: walked. -/
import Derived.Test.YtagfolckodpioaaPm
namespace Go.Proofs.Ytagfolckodpioaa.K2
open Go.RowKit Go.Maps Go.Proofs.Ytagfolckodpioaa
set_option linter.all false
def pkE (p : PkV) : List Value := [.int .i64 p.frm, .int .i64 p.dst, .string p.text]
theorem pkE_len (p : PkV) : (pkE p).length = 3 := rfl
theorem pkE_one (p : PkV) : ∀ u ∈ pkE p, u.oneCell' = true := by
  intro u hu
  simp only [pkE, List.mem_cons, List.not_mem_nil, or_false] at hu
  rcases hu with rfl | rfl | rfl <;> rfl
theorem info56 : (Try.prog.info? 56).map (fun i => (i.zero, i.size, i.bytes)) = some (some (.agg #[.int .i64 0, .int .i64 0, .string ⟨#[]⟩]), 3, 32) := by kernel_rfl
structure NA (B n mb : Nat) (room sent taken : Int) (l : List PkV) (row : Value) (c : Nat) (f : Pks) (W : World) : Prop where
  blk : W.heap[n]? = some (.cells (netC room row mb sent taken) 94 (0, 0))
  own : W.ownsRow B 56 3 row l.length (celC pkE l)
  mp : PM W mb c f
theorem NA.keep {B n mb : Nat} {room sent taken : Int} {l : List PkV} {row : Value} {c : Nat} {f : Pks} {W W' : World} (h : NA B n mb room sent taken l row c f W) (hb : Below W.heap.size W W') : NA B n mb room sent taken l row c f W' := ⟨blkK h.blk hb, own_keep h.own hb, h.mp.keep hb⟩
theorem PM.nb {w : World} {mb c n : Nat} {f : Pks} {cs : Array Value} {t : TypeId} (h : PM w mb c f) (hb : w.heap[n]? = some (.cells cs t (0, 0))) : mb ≠ n := by
  rintro rfl
  obtain ⟨k, D, -, ⟨es, clock, hm, -⟩, -⟩ := h
  rw [hm] at hb
  cases hb
theorem PM.row {w : World} {mb c B n z : Nat} {f : Pks} {e : TypeId} {v : Value} {xs : List Value} (h : PM w mb c f) (ho : w.ownsRow B e z v n xs) : v.ownBlock ≠ some mb := by
  intro hv
  obtain ⟨h1, ⟨rfl, _⟩ | ⟨g, cap, cur, rfl, hg, hc, _⟩⟩ := ho
  · cases hv
  · simp only [Value.ownBlock, Option.some.injEq] at hv
    subst hv
    exact h.nb hc rfl
/-- The row turns. -/
theorem NA.row {B n mb : Nat} {room sent taken : Int} {l l' : List PkV} {row row' : Value} {c : Nat} {f : Pks} {W W' : World} (h : NA B n mb room sent taken l row c f W) (hg : W.grownBy W' row.ownBlock) (ho : W'.ownsRow B 56 3 row' l'.length (celC pkE l')) : NA B n mb room sent taken l' row' c f (W'.setCell ⟨n, 1, none⟩ row') := by
  have hk := box_type hg h.own h.blk (by decide)
  refine ⟨heap_set hk 1 row', own_cell ho hk (by decide), ?_⟩
  have hm : PM W' mb c f := h.mp.block (hg.block mb h.mp.lt (fun e => h.mp.row h.own e.symm))
  exact hm.block (setOther _ rfl (hm.nb hk))
theorem NA.map {B n mb : Nat} {room sent taken : Int} {l : List PkV} {row : Value} {c c' : Nat} {f f' : Pks} {W W' : World} (h : NA B n mb room sent taken l row c f W) (hg : W.grownBy W' (some mb)) (hm : PM W' mb c' f') : NA B n mb room sent taken l row c' f' W' :=
  ⟨(hg.block n (Array.getElem?_eq_some_iff.1 h.blk).1 (fun e => h.mp.nb h.blk (by simpa using e.symm))).trans h.blk, h.own.kept hg (.inr (h.mp.row h.own)), hm⟩
set_option maxHeartbeats 8000000 in
set_option maxRecDepth 100000 in
theorem add_is (B n mb : Nat) (room sent taken : Int) (l : List PkV) (row : Value) (c : Nat) (f : Pks) (p : PkV) (w : World) (h : NA B n mb room sent taken l row c f w) (hB : B ≤ w.heap.size) (hn : B ≤ n) (hm : B ≤ mb) (hl : l.length ≤ 3000) (hc : c ≤ 100000) (hp : PkOk p) (hf : ∀ x, 0 ≤ pg f x ∧ pg f x ≤ 1000000) : Calls Try.prog 52 #[.pointer (some ⟨n, 0, none⟩), pkV p] w fun e w' => e = .returned (.tuple #[]) ∧ (∃ row', NA B n mb room sent taken (l ++ [p]) row' (c + 1) (updP f p (pg f p + 1)) w') ∧ Below B w w' := by
  have hb1 := below1 w (.cells #[.int .i64 p.frm, .int .i64 p.dst, .string p.text] 56)
  have N1 := hideIt (h.keep hb1)
  have K1 := hideIt (heap_alloc_new w (.cells #[.int .i64 p.frm, .int .i64 p.dst, .string p.text] 56))
  have B1 : Hid (Below B w (w.alloc (.cells #[.int .i64 p.frm, .int .i64 p.dst, .string p.text] 56))) := hb1.mono hB
  have Z1 : Hid (B ≤ (w.alloc (.cells #[.int .i64 p.frm, .int .i64 p.dst, .string p.text] 56)).heap.size) := Nat.le_trans hB hb1.size
  have hfp := hf p
  have HNE : Hid (row.ownBlock ≠ some w.heap.size) := fun e => by have := (h.own.lt _ e).2; omega
  have hnK : n < w.heap.size := (Array.getElem?_eq_some_iff.1 h.blk).1
  clear h hb1 hB hf
  unfold pkV
  go_enter Try.func52, Try.ntmps52
  go_upto_region 1 with fail
  generalize w.alloc (.cells #[.int .i64 p.frm, .int .i64 p.dst, .string p.text] 56) = W1 at *
  generalize w.heap.size = K at *
  have hb2 : Below W1.heap.size W1 (W1.alloc (.cells #[.int .i64 p.frm, .int .i64 p.dst, .string p.text] 56)).drew := (below1 W1 _).drew
  have N2 := N1.out.keep hb2
  obtain ⟨row', w5, hrun, how, hgr⟩ := app1 (enc := pkE) (t := 63) pkE_len pkE_one Try.underlying63 info56 rfl (by omega) (W1.alloc (.cells #[.int .i64 p.frm, .int .i64 p.dst, .string p.text] 56)).drew B row l p W1.heap.size 1 (Nat.le_trans Z1.out hb2.size) N2.own (heap_alloc_new W1 _) (by omega) (by unfold maxLen; omega)
  obtain ⟨ra, rc, rfl⟩ := own_len how
  have hk5 := box_type hgr N2.own N2.blk (by decide)
  have N5 := hideIt (N2.row hgr how)
  have B5 : Hid (Below B w (w5.setCell ⟨n, 1, none⟩ (.slice ra (l ++ [p]).length rc))) := by
    refine belowSet _ (B1.out.trans ((hb2.mono Z1.out).trans ?_)) hn
    exact (Out.ofGrown (F := fun k => B ≤ k) hgr (fun k e => (N2.own.lt k e).1)).below (Nat.le_trans Z1.out hb2.size) (fun k e => e)
  have hz5 : W1.heap.size ≤ (w5.setCell ⟨n, 1, none⟩ (.slice ra (l ++ [p]).length rc)).heap.size := by
    have h1 := Nat.le_trans hb2.size hgr.size
    simpa using h1
  have K5 : Hid ((w5.setCell ⟨n, 1, none⟩ (.slice ra (l ++ [p]).length rc)).heap[K]? = some (.cells #[.int .i64 p.frm, .int .i64 p.dst, .string p.text] 56 (0, 0))) := by
    refine setOther _ ((hgr.block K ?_ (fun e => HNE.out e.symm)).trans (blkK K1.out hb2)) (by omega)
    exact (Array.getElem?_eq_some_iff.1 (blkK K1.out hb2)).1
  obtain ⟨⟨s0, s1, s2, s3, s4⟩, sf, sz⟩ := five5_at hk5
  obtain ⟨⟨c0, c1, c2, c3, c4⟩, cf, cz⟩ := five5_at N1.out.blk
  obtain ⟨b0, b1, b2, bf, bz⟩ := three_at K1.out
  have hnc : n ≠ W1.heap.size := by omega
  have hKc : K ≠ W1.heap.size := by omega
  have HRUN := hideIt hrun
  clear hrun how hgr N2 hb2 hk5
  generalize (l ++ [p]).length = ln at *
  go_cut [13] from 4 to 13 (fun _ wx => w5.setCell ⟨n, 1, none⟩ (.slice ra ln rc) = wx)
  case first =>
    clear N1 K1 B1 Z1 N5 B5 K5
    go_region_law (refine step_app_runK rfl _ _ 63 63 rfl _ _ rfl rfl HRUN.out ?_)
    all_goals go_wp2_with fail
    all_goals go_meet
    all_goals rfl
  case rest =>
  subst hcut
  clear s0 s1 s2 s3 s4 sf sz c0 c1 c2 c3 c4 cf cz b0 b1 b2 bf bz hnc hKc HRUN N1 K1 B1 HNE
  generalize w5.setCell ⟨n, 1, none⟩ (.slice ra ln rc) = W5 at *
  have hPM : PM W5.drew mb c f := N5.out.mp.block rfl
  have hl0 := hPM.look p hp
  obtain ⟨v0, st, w6, w7, hme, hl1, hes, hM, hg7, hg6⟩ := hPM.entry (by omega) p hp (pg f p + 1)
  have N5d : NA B n mb room sent taken (l ++ [p]) (.slice ra ln rc) c f W5.drew := N5.out.keep (Below.refl _ _).drew
  have N7 := hideIt (N5d.map hg7 hM)
  have B7 : Hid (Below B w w7) := by
    refine B5.out.trans (((Below.refl B W5).drew).trans ?_)
    exact (Out.ofGrown (F := fun k => B ≤ k) hg7 (fun k e => by simp only [Option.some.injEq] at e; omega)).below (Nat.le_trans Z1.out hz5) (fun k e => e)
  have h6n := (hg6.block n (Array.getElem?_eq_some_iff.1 N5d.blk).1 (fun e => hPM.nb N5d.blk (by simpa using e.symm))).trans N5d.blk
  have h6K := (hg6.block K (Array.getElem?_eq_some_iff.1 K5.out).1 (fun e => hPM.nb (show W5.drew.heap[K]? = _ from K5.out) (by simpa using e.symm))).trans K5.out
  obtain ⟨⟨s0, s1, s2, s3, s4⟩, sf, sz⟩ := five5_at h6n
  obtain ⟨t0, t1, t2, tf, tz⟩ := three_at h6K
  obtain ⟨⟨c0, c1, c2, c3, c4⟩, cf, cz⟩ := five5_at N5.out.blk
  obtain ⟨b0, b1, b2, bf, bz⟩ := three_at K5.out
  have hw2 : IntKind.i64.wrap (pg f p + 1) = pg f p + 1 := by rw [IntKind.wrap_i64]; omega
  have hpg : (f p).getD 0 = pg f p := rfl
  rw [hpg] at hl0
  change _ = Result.ok (Value.tuple #[v0, Value.int .i64 st]) w6 at hme
  change (Instr.entryStore 87 (.map (some mb)) (Value.int .i64 st) (.int .i64 (pg f p + 1))).run Try.prog w6 = .ok () w7 at hes
  unfold pkV at hme hl0 hl1
  clear hM hg7 hg6 N5 N5d hPM h6n h6K K5 B5 hpg
  go_upto_region 2 with fail
  go_region
  all_goals go_wp2
  all_goals exact bodyPost_end (results_none rfl _ _ _) rfl ⟨rfl, ⟨_, N7.out⟩, B7.out⟩
end Go.Proofs.Ytagfolckodpioaa.K2
