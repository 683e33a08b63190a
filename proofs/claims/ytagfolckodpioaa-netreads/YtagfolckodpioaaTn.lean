/- No packet is taken out: walked; and how often one is in a list. -/
import Derived.Test.YtagfolckodpioaaTk
import Derived.Test.YtagfolckodpioaaSame
namespace Go.Proofs.Ytagfolckodpioaa.K2
open Go.RowKit Go.Maps Go.Proofs.Ytagfolckodpioaa
set_option linter.all false
set_option maxHeartbeats 4000000 in
theorem take_no (B n mb : Nat) (room sent taken : Int) (l : List PkV) (row : Value) (c : Nat) (f : Pks) (i : Int) (w : World) (h : NA B n mb room sent taken l row c f w) (hl : l.length ≤ 3000) (hno : wiB i 0 ((l.length : Int) - 1) = false) : Calls Try.prog 21 #[.pointer (some ⟨n, 0, none⟩), .int .i64 i] w fun e w' => e = .returned (.tuple #[.agg #[.int .i64 0, .int .i64 0, .string ⟨#[]⟩], .int .i64 51]) ∧ Below w.heap.size w w' := by
  have hb0 := below1 w (.cells #[.int .i64 0, .int .i64 0, .string ⟨#[]⟩] 56)
  have N0 := hideIt (h.keep hb0)
  have R0 := hideIt (heap_alloc_new w (.cells #[.int .i64 0, .int .i64 0, .string ⟨#[]⟩] 56))
  have B0 := hideIt hb0
  clear h hb0
  obtain ⟨ra, rc, rfl⟩ := own_len N0.out.own
  go_enter Try.func21, Try.ntmps21
  go_upto_region 1 with fail
  generalize w.alloc (.cells #[.int .i64 0, .int .i64 0, .string ⟨#[]⟩] 56) = W0 at *
  have HHA := hideIt (has_any n i room sent taken ra l.length rc mb W0 (by omega) N0.out.blk)
  rw [hno] at HHA
  go_wp2_with fail
  refine HHA.out.mono ?_
  rintro e w1 ⟨rfl, rfl⟩
  dsimp only
  obtain ⟨r0, r1, r2, rf, rz⟩ := three_at R0.out
  have R1 := hideIt (heap_set (heap_set (heap_set R0.out 0 (.int .i64 0)) 1 (.int .i64 0)) 2 (.string ⟨#[]⟩))
  have B1 : Hid (Below w.heap.size w (((w1.setCell ⟨w.heap.size, 0, none⟩ (.int .i64 0)).setCell ⟨w.heap.size, 1, none⟩ (.int .i64 0)).setCell ⟨w.heap.size, 2, none⟩ (.string ⟨#[]⟩))) := belowSet _ (belowSet _ (belowSet _ B0.out (Nat.le_refl _)) (Nat.le_refl _)) (Nat.le_refl _)
  clear N0 R0 B0 HHA
  go_wp2
  revert R1 B1
  generalize (World.setCell _ ⟨w.heap.size, 2, none⟩ _) = WF
  intro R1 B1
  exact bodyPost_ret (v := .tuple #[.agg #[.int .i64 0, .int .i64 0, .string ⟨#[]⟩], .int .i64 51]) (by simp [results, Try.results21, go_sem, cell_at R1.out]) rfl ⟨rfl, B1.out⟩
/-- Two packets, held against each other. -/
def eqT (a b : PkV) : Bool := a.frm == b.frm && a.dst == b.dst && (a.text.toList == b.text.toList)
theorem eql56 (a1 a2 b1 b2 : Int) (a3 b3 : ByteArray) (w : World) : (binOp .eql 56 (.agg #[.int .i64 a1, .int .i64 a2, .string a3]) (.agg #[.int .i64 b1, .int .i64 b2, .string b3])).run Try.prog w = .ok (.bool (eqT ⟨a1, a2, a3⟩ ⟨b1, b2, b3⟩)) w := by
  unfold eqT
  simp [go_sem]
  by_cases h1 : a1 = b1 <;> by_cases h2 : a2 = b2 <;> by_cases h3 : a3.toList = b3.toList <;> simp [h1, h2, h3, go_sem]
/-- How often one is there. -/
def cntP (x : PkV) (l : List PkV) : Nat := l.countP (fun y => eqT y x)
theorem cnt_take {x : PkV} {l : List PkV} {t : Nat} (h : t < l.length) : cntP x (l.take (t + 1)) = cntP x (l.take t) + (if eqT l[t] x = true then 1 else 0) := by
  unfold cntP
  rw [List.take_succ_eq_append_getElem h, List.countP_append]
  simp [List.countP_cons]
theorem cnt_le (x : PkV) (l : List PkV) : cntP x l ≤ l.length := List.countP_le_length
set_option maxHeartbeats 8000000 in
set_option maxRecDepth 100000 in
theorem count_is (v : Value) (l : List PkV) (x : PkV) (w : World) (h : SGot 3 32 pkE w v l) : Calls Try.prog 32 #[v, pkV x] w fun e w' => e = .returned (.int .i64 (cntP x l : Nat)) ∧ Below w.heap.size w w' := by
  have hb1 := below1 w (.cells #[.int .i64 x.frm, .int .i64 x.dst, .string x.text] 56)
  have K1 := hideIt (heap_alloc_new w (.cells #[.int .i64 x.frm, .int .i64 x.dst, .string x.text] 56))
  have B1 := hideIt hb1
  have HG := hideIt (h.keep hb1)
  have HST := hideIt (fun t (ht : t < l.length) => cnt_take (x := x) ht)
  have HE : Hid (cntP x (l.take l.length) = cntP x l) := by show _ = _; rw [List.take_length]
  have HZ : Hid (cntP x (l.take 0) = 0) := rfl
  have HLE := hideIt (fun t => cnt_le x (l.take t))
  have HQ := hideIt (fun (y : PkV) W => eql56 y.frm y.dst x.frm x.dst y.text x.text W)
  generalize hfu : (fun t : Nat => cntP x (l.take t)) = FT at *
  have T1 : Hid (∀ t, cntP x (l.take t) = FT t) := fun t => congrFun hfu t
  simp only [T1.out] at HST HE HZ HLE
  generalize cntP x l = R at *
  obtain ⟨va, vc, rfl⟩ := h.slice
  have h8 := h.1
  clear h hb1 hfu T1
  unfold pkV
  go_enter Try.func32, Try.ntmps32
  go_upto_region 3 with fail
  generalize w.alloc (.cells #[.int .i64 x.frm, .int .i64 x.dst, .string x.text] 56) = W1 at *
  go_loopw [5, 6] (fun u i wr => ∃ t : Nat, u = .int .i64 (FT t : Nat) ∧ i = .int .i64 t ∧ t ≤ l.length ∧ Hid (Below W1.heap.size W1 wr)) (fun _ i _ => l.length - (RowKit.intOf i).toNat)
  case atStart => exact ⟨0, by rw [HZ.out]; rfl, rfl, Nat.zero_le _, hideIt (Below.refl _ _)⟩
  case round =>
    obtain ⟨t, rfl, rfl, ht, HR⟩ := hrel
    by_cases hlt : t < l.length
    · have hltI : (t : Int) < (l.length : Int) := by omega
      have ht0 : (0 : Int) ≤ (t : Int) := by omega
      have hw : IntKind.i64.wrap ((t : Int) + 1) = ((t + 1 : Nat) : Int) := by rw [IntKind.wrap_i64]; omega
      obtain ⟨-, a', c', e, hcap, hr⟩ := HG.out
      simp only [Value.slice.injEq, true_and] at e
      obtain ⟨rfl, rfl⟩ := e
      obtain ⟨g, off, hva, hgl, hcc⟩ := hr (by omega)
      have hgr : g < wr.heap.size := Nat.lt_of_lt_of_le hgl HR.out.size
      have q0 : wr.cell? ⟨g, off + t * 3, none⟩ = some (.int .i64 (l[t]).frm) := by
        rw [HR.out.cell (p := ⟨g, off + t * 3, none⟩) hgl, hcc (t * 3) (by omega)]
        exact celC_get pkE_len l t hlt 0 (by omega)
      have q1 : wr.cell? ⟨g, off + t * 3 + 1, none⟩ = some (.int .i64 (l[t]).dst) := by
        rw [HR.out.cell (p := ⟨g, off + t * 3 + 1, none⟩) hgl, show off + t * 3 + 1 = off + (t * 3 + 1) by omega, hcc (t * 3 + 1) (by omega)]
        exact celC_get pkE_len l t hlt 1 (by omega)
      have q2 : wr.cell? ⟨g, off + t * 3 + 2, none⟩ = some (.string (l[t]).text) := by
        rw [HR.out.cell (p := ⟨g, off + t * 3 + 2, none⟩) hgl, show off + t * 3 + 2 = off + (t * 3 + 2) by omega, hcc (t * 3 + 2) (by omega)]
        exact celC_get pkE_len l t hlt 2 (by omega)
      obtain ⟨b0, b1, b2, bf, bz⟩ := three_at (blkK K1.out HR.out)
      have hs := HST.out t hlt
      have hle := HLE.out t
      have hlt2 : (l.take t).length ≤ l.length := by rw [List.length_take]; omega
      have hqq := HQ.out l[t]
      clear hcc hr HST HLE HQ hcap
      generalize l[t] = y at *
      obtain ⟨yf, yd, yt⟩ := y
      dsimp only at q0 q1 q2 hqq
      subst hva
      have HS := hideIt hs
      clear hs
      go_upto_region 5 with fail
      cases hq : eqT ⟨yf, yd, yt⟩ x with
      | true =>
        obtain ⟨xf, xd, xt⟩ := x
        dsimp only at hqq b0 b1 b2
        rw [hq] at hqq HS
        rw [if_pos rfl] at HS
        have hwA : IntKind.i64.wrap ((FT t : Int) + 1) = ((FT (t + 1) : Nat) : Int) := by rw [HS.out, IntKind.wrap_i64]; omega
        go_quiet (fail)
        go_wp2
        go_roundw
        case rel => exact ⟨t + 1, rfl, by go_num, by omega, hideIt (below_drewN HR.out _)⟩
        case measure => simp [RowKit.intOf]; omega
      | false =>
        obtain ⟨xf, xd, xt⟩ := x
        dsimp only at hqq b0 b1 b2
        rw [hq] at hqq HS
        rw [if_neg (by decide), Nat.add_zero] at HS
        go_quiet (fail)
        go_wp2
        go_roundw
        case rel => exact ⟨t + 1, by rw [HS.out]; rfl, by go_num, by omega, hideIt (below_drewN HR.out _)⟩
        case measure => simp [RowKit.intOf]; omega
    · have hltI : ¬ (t : Int) < (l.length : Int) := by omega
      have het : t = l.length := by omega
      subst het
      rw [HE.out]
      have B2 := hideIt (below_via B1.out HR.out)
      clear HG HST HLE HR
      go_wp2
      go_ret
      exact ⟨rfl, B2.out⟩
end Go.Proofs.Ytagfolckodpioaa.K2
