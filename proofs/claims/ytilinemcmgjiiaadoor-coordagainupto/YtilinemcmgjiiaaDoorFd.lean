/- A transaction's state: the law's find, walked. -/
import Derived.Test.YtilinemcmgjiiaaDoorSm
import Derived.BigQuiet
namespace Go.Proofs.YtilinemcmgjiiaaDoor
open Go.RowKit
set_option linter.all false
theorem eqlTxn (a1 a2 b1 b2 : Int) (w : World) : (binOp .eql 35 (.agg #[.int .i64 a1, .int .i64 a2]) (.agg #[.int .i64 b1, .int .i64 b2])).run Tryd.prog w = .ok (.bool (a1 == b1 && a2 == b2)) w := by
  simp [go_sem]
  by_cases h1 : a1 = b1 <;> by_cases h2 : a2 = b2 <;> simp [h1, h2, go_sem]
/-- The state of the first transaction of that name; 0: there is none. -/
def stL (l : List TraX) (c q : Int) : Int := match l.find? (fun t => t.c == c && t.q == q) with | some t => t.st | none => 0
theorem stL_at {l : List TraX} {t : Nat} (h : t < l.length) (c q : Int) : stL (l.drop t) c q = if (l[t].c == c && l[t].q == q) = true then l[t].st else stL (l.drop (t + 1)) c q := by
  unfold stL
  rw [List.drop_eq_getElem_cons h, List.find?_cons]
  cases he : (l[t].c == c && l[t].q == q) <;> simp
set_option maxHeartbeats 8000000 in
set_option maxRecDepth 100000 in
theorem findL_is (g : Int) (a : Option Addr) (cp : Nat) (l : List TraX) (c q : Int) (w : World) (h : Trs w (.slice a l.length cp) l) : Calls Tryd.prog 11 #[.agg #[.int .i64 g, .slice a l.length cp], .agg #[.int .i64 c, .int .i64 q]] w fun e w' => e = .returned (.int .i64 (stL l c q)) ∧ Below w.heap.size w w' := by
  obtain ⟨a', c', e, h8, hr⟩ := h.cells
  simp only [Value.slice.injEq, true_and] at e
  obtain ⟨rfl, rfl⟩ := e
  obtain ⟨t1, t2, t3⟩ := two_heap w (.cells #[.int .i64 g, .slice a l.length cp] 25) (.cells #[.int .i64 c, .int .i64 q] 35)
  have T1 := hideIt t1
  have T2 := hideIt t2
  have HB := hideIt (below2 w (.cells #[.int .i64 g, .slice a l.length cp] 25) (.cells #[.int .i64 c, .int .i64 q] 35))
  have HH := hideIt hr
  have HST := hideIt (fun t (ht : t < l.length) => stL_at ht c q)
  have HE : Hid (stL (l.drop l.length) c q = 0) := by show _ = _; rw [List.drop_length]; rfl
  have H0 : Hid (stL (l.drop 0) c q = stL l c q) := by show _ = _; rw [List.drop_zero]
  generalize stL l c q = R at *
  clear t1 t2 t3 h hr
  go_enter Tryd.func11, Tryd.ntmps11
  go_upto_region 2 with fail
  generalize (w.alloc (.cells #[.int .i64 g, .slice a l.length cp] 25)).alloc (.cells #[.int .i64 c, .int .i64 q] 35) = W0 at *
  go_loopw [5] (fun x wr => ∃ t : Nat, x = .int .i64 t ∧ t ≤ l.length ∧ Hid (stL (l.drop t) c q = R ∧ Below W0.heap.size W0 wr)) (fun x _ => l.length - (intOf x).toNat)
  case atStart => exact ⟨0, rfl, Nat.zero_le _, ⟨H0.out, Below.refl _ _⟩⟩
  case round =>
    obtain ⟨t, rfl, ht, HR⟩ := hrel
    obtain ⟨⟨c0, c1⟩, cf, cz⟩ := at2 (blkK T1.out HR.out.2)
    obtain ⟨⟨d0, d1⟩, df, dz⟩ := at2 (blkK T2.out HR.out.2)
    by_cases hlt : t < l.length
    · have hltI : (t : Int) < (l.length : Int) := by omega
      have ht0 : (0 : Int) ≤ (t : Int) := by omega
      have hw : IntKind.i64.wrap ((t : Int) + 1) = ((t + 1 : Nat) : Int) := by rw [IntKind.wrap_i64]; omega
      obtain ⟨b, off, hva, hgl, hq⟩ := HH.out t hlt
      have hbw := below_via HB.out HR.out.2
      have q0 : wr.cell? ⟨b, off + t * 21, none⟩ = some (.int .i64 (l[t]).c) := (hbw.cell (p := ⟨b, off + t * 21, none⟩) hgl).trans (hq 0 _ rfl)
      have q1 : wr.cell? ⟨b, off + t * 21 + 1, none⟩ = some (.int .i64 (l[t]).q) := (hbw.cell (p := ⟨b, off + t * 21 + 1, none⟩) hgl).trans (hq 1 _ rfl)
      have q14 : wr.cell? ⟨b, off + t * 21 + 14, none⟩ = some (.int .i64 (l[t]).st) := (hbw.cell (p := ⟨b, off + t * 21 + 14, none⟩) hgl).trans (hq 14 _ rfl)
      have hgr : b < wr.heap.size := Nat.lt_of_lt_of_le hgl hbw.size
      have HS := hideIt (HST.out t hlt)
      have hqq := fun W => eqlTxn (l[t]).c (l[t]).q c q W
      have HRR := hideIt HR.out.1
      have BW := hideIt HR.out.2
      clear hq hbw HH HST HR
      generalize (l[t]).c = y1 at *
      generalize (l[t]).q = y2 at *
      generalize (l[t]).st = y3 at *
      subst hva
      go_upto_region 4 with fail
      cases he : (y1 == c && y2 == q)
      · rw [he] at hqq HS
        rw [if_neg (by decide)] at HS
        clear he
        go_quiet (fail)
        go_wp2
        go_roundw
        case rel => exact ⟨t + 1, by go_num, by omega, ⟨by rw [← HS.out]; exact HRR.out, below_drewN BW.out _⟩⟩
        case measure => simp [intOf]; omega
      · rw [he] at hqq HS
        rw [if_pos rfl] at HS
        clear he
        have HRF : Hid (R = y3) := by show _ = _; rw [← HRR.out, HS.out]
        have B9 := hideIt (fun m => below_via HB.out (below_drewN BW.out m))
        go_quiet (fail)
        have B10 := hideIt (B9.out nq)
        clear B9 BW HB
        go_wp2
        go_ret
        exact ⟨by rw [HRF.out]; rfl, B10.out⟩
    · have hltI : ¬ (t : Int) < (l.length : Int) := by omega
      have het : t = l.length := by omega
      subst het
      have HRF : Hid (R = 0) := by show _ = _; rw [← HR.out.1, HE.out]
      have B2 := hideIt (below_via HB.out HR.out.2)
      clear HR HH HST HE H0 HB
      go_wp2
      go_ret
      exact ⟨by rw [HRF.out]; rfl, B2.out⟩
end Go.Proofs.YtilinemcmgjiiaaDoor
