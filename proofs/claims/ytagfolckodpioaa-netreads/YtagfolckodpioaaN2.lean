/- What a net's calls turn, and nothing else: walked again, with the blocks named. -/
import Derived.Test.YtagfolckodpioaaTn
import Derived.Maps.AppendAt
namespace Go.Proofs.Ytagfolckodpioaa.K2
open Go.RowKit Go.Maps Go.Proofs.Ytagfolckodpioaa
set_option linter.all false
/-- The blocks that a net's calls may turn. -/
def NtF (n mb : Nat) (row : Value) (k : Nat) : Prop := k = n ∨ k = mb ∨ row.ownBlock = some k
/-- The row is where it was, or in memory that is new. -/
def NxR (row row' : Value) (w : World) : Prop := row'.ownBlock = row.ownBlock ∨ ∃ k, row'.ownBlock = some k ∧ w.heap.size ≤ k
theorem app1At {α : Type} {k bytes : Nat} {enc : α → List Value} {t e : TypeId} {z : Value} (hk : ∀ x, (enc x).length = k) (h1 : ∀ x, ∀ u ∈ enc x, u.oneCell' = true) (ht : Try.prog.underlying t = some (.slice e))
    (hi : (Try.prog.info? e).map (fun i => (i.zero, i.size, i.bytes)) = some (some z, k, bytes)) (hz : z.cells.size = k) (hk0 : 0 < k) (w : World) (B : Nat) (v : Value) (l : List α) (x : α) (b c : Nat) (hB : B ≤ w.heap.size)
    (ho : w.ownsRow B e k v l.length (celC enc l)) (hc : w.heap[b]? = some (.cells (enc x).toArray e (0, 0))) (hl : (l.length + 1) * bytes ≤ 140737488355328) (hm : l.length + 1 ≤ maxLen) :
    ∃ v' w', (Builtin.append_ #[t, t] t #[v, .slice (some ⟨b, 0, none⟩) 1 c]).run Try.prog w = .ok v' w' ∧ w'.ownsRow B e k v' (l ++ [x]).length (celC enc (l ++ [x])) ∧ w.grownBy w' v.ownBlock ∧ (v'.ownBlock = v.ownBlock ∨ v'.ownBlock = some w.heap.size) := by
  obtain ⟨i, hi, hz0, hz1, hz2⟩ := info_parts hi
  obtain ⟨v', w', r1, r2, r3, _, r4⟩ := run_append_own_at (P := Try.prog) w B t t e i _ k bytes ht hi hz0 hz1 hz2 hz hk0 v l.length (celC enc l) ho ⟨b, 0, none⟩ 1 c (enc x) (by rw [hk, Nat.one_mul]) (fun j u hu => by
    rw [addN, cell_at hc, Nat.zero_add]
    simpa using hu) (h1 x) hm hl hB
  refine ⟨v', w', r1, ?_, r3, r4⟩
  rw [List.length_append, celC_app, show celC enc [x] = enc x by simp [celC]]
  exact r2
set_option maxHeartbeats 8000000 in
set_option maxRecDepth 100000 in
theorem add2_is (B n mb : Nat) (room sent taken : Int) (l : List PkV) (row : Value) (c : Nat) (f : Pks) (p : PkV) (w : World) (h : NA B n mb room sent taken l row c f w) (hB : B ≤ w.heap.size) (hn : B ≤ n) (hm : B ≤ mb) (hl : l.length ≤ 3000) (hc : c ≤ 100000) (hp : PkOk p) (hf : ∀ x, 0 ≤ pg f x ∧ pg f x ≤ 1000000) : Calls Try.prog 52 #[.pointer (some ⟨n, 0, none⟩), pkV p] w fun e w' => e = .returned (.tuple #[]) ∧ (∃ row', NA B n mb room sent taken (l ++ [p]) row' (c + 1) (updP f p (pg f p + 1)) w' ∧ NxR row row' w) ∧ Out (NtF n mb row) w w' := by
  have hb1 := below1 w (.cells #[.int .i64 p.frm, .int .i64 p.dst, .string p.text] 56)
  have N1 := hideIt (h.keep hb1)
  have K1 := hideIt (heap_alloc_new w (.cells #[.int .i64 p.frm, .int .i64 p.dst, .string p.text] 56))
  have B1 : Hid (Out (NtF n mb row) w (w.alloc (.cells #[.int .i64 p.frm, .int .i64 p.dst, .string p.text] 56))) := Out.ofBelow hb1
  have HZ0 : Hid (w.heap.size ≤ (w.alloc (.cells #[.int .i64 p.frm, .int .i64 p.dst, .string p.text] 56)).heap.size) := hb1.size
  have HROW : Hid (∃ r, r = row) := ⟨row, rfl⟩
  have Z1 : Hid (B ≤ (w.alloc (.cells #[.int .i64 p.frm, .int .i64 p.dst, .string p.text] 56)).heap.size) := Nat.le_trans hB hb1.size
  have hfp := hf p
  have HNE : Hid (row.ownBlock ≠ some w.heap.size) := fun e => by have := (h.own.lt _ e).2; omega
  have hnK : n < w.heap.size := (Array.getElem?_eq_some_iff.1 h.blk).1
  clear h hb1 hB hf
  unfold pkV
  go_enter Try.func52, Try.ntmps52
  go_upto_region 1 with fail
  generalize w.alloc (.cells #[.int .i64 p.frm, .int .i64 p.dst, .string p.text] 56) = W1 at *
  generalize hKw : w.heap.size = K at *
  have HKW := hideIt hKw
  clear hKw
  have hb2 : Below W1.heap.size W1 (W1.alloc (.cells #[.int .i64 p.frm, .int .i64 p.dst, .string p.text] 56)).drew := (below1 W1 _).drew
  have N2 := N1.out.keep hb2
  obtain ⟨row', w5, hrun, how, hgr, hat⟩ := app1At (enc := pkE) (t := 63) pkE_len pkE_one Try.underlying63 info56 rfl (by omega) (W1.alloc (.cells #[.int .i64 p.frm, .int .i64 p.dst, .string p.text] 56)).drew B row l p W1.heap.size 1 (Nat.le_trans Z1.out hb2.size) N2.own (heap_alloc_new W1 _) (by omega) (by unfold maxLen; omega)
  obtain ⟨ra, rc, rfl⟩ := own_len how
  have hk5 := box_type hgr N2.own N2.blk (by decide)
  have N5 := hideIt (N2.row hgr how)
  have B5 : Hid (Out (NtF n mb row) w (w5.setCell ⟨n, 1, none⟩ (.slice ra (l ++ [p]).length rc))) := by
    refine ((B1.out.trans (Out.ofBelow (F := NtF n mb row) hb2) (fun _ _ h => h)).trans (Out.ofGrown (F := NtF n mb row) hgr (fun k e => .inr (.inr e))) (fun _ _ h => h)).trans (Out.ofSet (F := NtF n mb row) w5 ⟨n, 1, none⟩ _ (.inl rfl)) (fun _ _ h => h)
  have HNX : Hid (NxR row (.slice ra (l ++ [p]).length rc) w) := by
    rcases hat with h | h
    · exact .inl h
    · exact .inr ⟨_, h, by have := hb2.size; have := HZ0.out; have := HKW.out; omega⟩
  have hz5 : W1.heap.size ≤ (w5.setCell ⟨n, 1, none⟩ (.slice ra (l ++ [p]).length rc)).heap.size := by
    have h1 := Nat.le_trans hb2.size hgr.size
    simpa using h1
  have K5 : Hid ((w5.setCell ⟨n, 1, none⟩ (.slice ra (l ++ [p]).length rc)).heap[K]? = some (.cells #[.int .i64 p.frm, .int .i64 p.dst, .string p.text] 56 (0, 0))) := by
    refine setOther _ ((hgr.block K ?_ (fun e => HNE.out e.symm)).trans (blkK K1.out hb2)) (by omega)
    exact (Array.getElem?_eq_some_iff.1 (blkK K1.out hb2)).1
  obtain ⟨⟨s0, s1, s2, s3, s4⟩, sf, sz⟩ := five5_at hk5
  obtain ⟨⟨c0, c1, c2, c3, c4⟩, cf, cz⟩ := five5_at N1.out.blk
  obtain ⟨b0, b1, b2, bf, bz⟩ := three_at K1.out
  have hnc : n ≠ W1.heap.size := by omega
  have hKc : K ≠ W1.heap.size := by omega
  have HRUN := hideIt hrun
  clear hrun how hgr N2 hb2 hk5
  generalize (l ++ [p]).length = ln at *
  go_cut [13] from 4 to 13 (fun _ wx => w5.setCell ⟨n, 1, none⟩ (.slice ra ln rc) = wx)
  case first =>
    clear N1 K1 B1 Z1 N5 B5 K5
    go_region_law (refine step_app_runK rfl _ _ 63 63 rfl _ _ rfl rfl HRUN.out ?_)
    all_goals go_wp2_with fail
    all_goals go_meet
    all_goals rfl
  case rest =>
  subst hcut
  clear s0 s1 s2 s3 s4 sf sz c0 c1 c2 c3 c4 cf cz b0 b1 b2 bf bz hnc hKc HRUN N1 K1 B1 HNE
  generalize w5.setCell ⟨n, 1, none⟩ (.slice ra ln rc) = W5 at *
  have hPM : PM W5.drew mb c f := N5.out.mp.block rfl
  have hl0 := hPM.look p hp
  obtain ⟨v0, st, w6, w7, hme, hl1, hes, hM, hg7, hg6⟩ := hPM.entry (by omega) p hp (pg f p + 1)
  have N5d : NA B n mb room sent taken (l ++ [p]) (.slice ra ln rc) c f W5.drew := N5.out.keep (Below.refl _ _).drew
  have N7 := hideIt (N5d.map hg7 hM)
  have B7 : Hid (Out (NtF n mb row) w w7) := by
    exact (B5.out.trans (Out.ofDrew (F := NtF n mb row) W5) (fun _ _ h => h)).trans (Out.ofGrown (F := NtF n mb row) hg7 (fun k e => .inr (.inl (by simpa using e.symm)))) (fun _ _ h => h)
  have h6n := (hg6.block n (Array.getElem?_eq_some_iff.1 N5d.blk).1 (fun e => hPM.nb N5d.blk (by simpa using e.symm))).trans N5d.blk
  have h6K := (hg6.block K (Array.getElem?_eq_some_iff.1 K5.out).1 (fun e => hPM.nb (show W5.drew.heap[K]? = _ from K5.out) (by simpa using e.symm))).trans K5.out
  obtain ⟨⟨s0, s1, s2, s3, s4⟩, sf, sz⟩ := five5_at h6n
  obtain ⟨t0, t1, t2, tf, tz⟩ := three_at h6K
  obtain ⟨⟨c0, c1, c2, c3, c4⟩, cf, cz⟩ := five5_at N5.out.blk
  obtain ⟨b0, b1, b2, bf, bz⟩ := three_at K5.out
  have hw2 : IntKind.i64.wrap (pg f p + 1) = pg f p + 1 := by rw [IntKind.wrap_i64]; omega
  have hpg : (f p).getD 0 = pg f p := rfl
  rw [hpg] at hl0
  change _ = Result.ok (Value.tuple #[v0, Value.int .i64 st]) w6 at hme
  change (Instr.entryStore 87 (.map (some mb)) (Value.int .i64 st) (.int .i64 (pg f p + 1))).run Try.prog w6 = .ok () w7 at hes
  unfold pkV at hme hl0 hl1
  clear hM hg7 hg6 N5 N5d hPM h6n h6K K5 B5 hpg
  go_upto_region 2 with fail
  go_region
  all_goals go_wp2
  all_goals exact bodyPost_end (results_none rfl _ _ _) rfl ⟨rfl, ⟨_, N7.out, HNX.out⟩, B7.out⟩
end Go.Proofs.Ytagfolckodpioaa.K2
