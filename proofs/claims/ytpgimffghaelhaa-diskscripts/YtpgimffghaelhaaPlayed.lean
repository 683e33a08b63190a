/- A disk behind a script. -/
import Derived.Test.YtpgimffghaelhaaOps
namespace Go.Proofs.Ytpgimffghaelhaa
open Go.RowKit Go.Maps

theorem OpsAt.take {w : World} {a : Option Addr} {l : List OpV} (h : OpsAt w a l) (n : Nat) : OpsAt w a (l.take n) := by
  intro i hi
  have hi' : i < l.length := by simp at hi; omega
  obtain ⟨b, off, r⟩ := h i hi'
  refine ⟨b, off, ?_⟩
  simpa using r
set_option maxHeartbeats 1000000 in
theorem few_is (w : World) (a : Option Addr) (cap : Nat) (l : List OpV) (h : OpsAt w a l) (hc : l.length ≤ cap) (hm : cap ≤ 9223372036854775807) :
    Calls Try.prog 12 #[.slice a l.length cap] w fun e w' => e = .returned (.slice a (l.take 60).length cap) ∧ w' = w := by
  by_cases hl : 60 < l.length
  · obtain ⟨b, off, rfl, hb, _⟩ := h 0 (by omega)
    have hl' : (60 : Int) < (l.length : Int) := by omega
    have e : (l.take 60).length = 60 := by simp; omega
    rw [e]
    have hc' : (60 : Int) ≤ (cap : Int) := by omega
    clear h
    go_enter Try.func12, Try.ntmps12
    go_wp2
    go_ret
    exact ⟨rfl, rfl⟩
  · have hl' : ¬ (60 : Int) < (l.length : Int) := by omega
    have e : (l.take 60).length = l.length := by simp; omega
    rw [e]
    clear h
    go_enter Try.func12, Try.ntmps12
    go_wp2
    go_ret
    exact ⟨rfl, rfl⟩
theorem cutB {w : World} {B p : Nat} {S : St} {N : Nat} (h : DiskB w B p S N) (hB : B ≤ w.heap.size) (i n : Int) (hi : (Lit.int .i64 i).wf = true) (hN : N + 1 < 1099511627776) :
    Calls Try.prog 26 #[.pointer (some ⟨p, 0, none⟩), .int .i64 i, .int .i64 n] w fun e w' => e = .returned (.int .i64 (cutE S i n : Int)) ∧ DiskB w' B p (cutS S i n) (N + 1) ∧ Below B w w' := by
  refine (cut_is h i n hi hN).mono ?_
  rintro e w' ⟨rfl, hd, ho⟩
  exact ⟨rfl, hd.wide (fun k hk hl => ⟨hk.1, hl⟩), ho.below hB (fun k hk => hk.1)⟩
theorem dropB {w : World} {B p : Nat} {S : St} {N : Nat} (h : DiskB w B p S N) (hB : B ≤ w.heap.size) (i : Int) (hi : (Lit.int .i64 i).wf = true) (hN : N + 1 < 1099511627776) :
    Calls Try.prog 19 #[.pointer (some ⟨p, 0, none⟩), .int .i64 i] w fun e w' => e = .returned (.int .i64 (cutE S i 0 : Int)) ∧ DiskB w' B p (cutS S i 0) (N + 1) ∧ Below B w w' := by
  refine (drop_is h i hi hN).mono ?_
  rintro e w' ⟨rfl, hd, ho⟩
  exact ⟨rfl, hd.wide (fun k hk hl => ⟨hk.1, hl⟩), ho.below hB (fun k hk => hk.1)⟩
theorem fuseB {w : World} {B p : Nat} {S : St} {N : Nat} (h : DiskB w B p S N) (hB : B ≤ w.heap.size) (n : Int) (hn : n ≤ 9223372036854775807) :
    Calls Try.prog 16 #[.pointer (some ⟨p, 0, none⟩), .int .i64 n] w fun e w' => e = .returned (.int .i64 (fuseE n : Int)) ∧ DiskB w' B p (fuseS S n) N ∧ Below B w w' := by
  refine (fuse_is h n hn).mono ?_
  rintro e w' ⟨rfl, hd, ho⟩
  exact ⟨rfl, hd.wide (fun k hk hl => ⟨hk.1, hl⟩), ho.below hB (fun k hk => hk.1)⟩
theorem crashB {w w0 : World} {p : Nat} {S : St} {N : Nat} (h : DiskB w w0.heap.size p S N) (hb : Below w0.heap.size w0 w) (a : Option Addr) (keep : List Int) (c : Nat) (hk : NumsAt w0 a keep) (hN : N + 1 < 1099511627776) :
    Calls Try.prog 22 #[.pointer (some ⟨p, 0, none⟩), .slice a keep.length c] w fun e w' => e = .returned (.int .i64 (crashN S : Int)) ∧ DiskB w' w0.heap.size p (crashS S keep) (N + 1) ∧ Below w0.heap.size w w' := by
  have hK : Keep w (fun k => w0.heap.size ≤ k ∧ k < w.heap.size) a keep := by
    obtain ⟨b, off, hk⟩ := hk
    refine ⟨b, off, fun j hj => ?_⟩
    obtain ⟨k1, k2, k3, k4, k5⟩ := hk j hj
    exact ⟨k1, Nat.lt_of_lt_of_le k2 hb.size, fun h => by omega, (hb.cell k2).trans k3, k4, k5⟩
  refine (crash_is h hN (fun k hk => hk.2) a keep c hK).mono ?_
  rintro e w' ⟨rfl, hd, ho⟩
  exact ⟨rfl, hd.wide (fun k hk hl => ⟨hk.1, hl⟩), ho.below hb.size (fun k hk => hk.1)⟩
theorem DiskB.more {w : World} {B p : Nat} {S : St} {N M : Nat} (h : DiskB w B p S N) (hN : N ≤ M) (hM : M < 1099511627776) : DiskB w B p S M := DiskAt.more h hN hM
def PlayedIs (w : World) (e : Ending) (w' : World) : Prop := ∃ p S N, e = .returned (.pointer (some ⟨p, 0, none⟩)) ∧ DiskB w' w.heap.size p S N ∧ N ≤ 60 ∧ Below w.heap.size w w'
set_option maxHeartbeats 4000000 in
set_option maxRecDepth 100000 in
theorem played_is (w : World) (x : Int) (hx : i64B x) (a : Option Addr) (cap : Nat) (l0 : List OpV) (h : OpsAt w a l0) (hc : l0.length ≤ cap) (hm : cap ≤ 9223372036854775807) :
    Calls Try.prog 20 #[.int .i64 x, .slice a l0.length cap] w (PlayedIs w) := by
  have hpl : pickN x 2000 < 2000 := Nat.mod_lt _ (by omega)
  have HP := hideIt (pick_is x 2000 w hx (by omega) (by omega))
  have hN := new_good (256 + pickN x 2000) w (by omega) (by omega)
  rw [show ((256 + pickN x 2000 : Nat) : Int) = 256 + (pickN x 2000 : Int) by omega] at hN
  have HN := hideIt hN
  clear hN
  have HF := hideIt (fun W (hb : Below w.heap.size w W) => few_is W a cap l0 (h.below hb) hc hm)
  have hL := h.take 60
  have hl60 : (l0.take 60).length ≤ 60 := by simp; omega
  generalize l0.take 60 = l at *
  have HL := hideIt hL
  clear h hL
  generalize pickN x 2000 = r at *
  go_enter Try.func20, Try.ntmps20
  go_wp2_with fail
  refine HP.out.mono ?_
  rintro e w1 ⟨rfl, rfl⟩
  dsimp only
  go_wp2_with fail
  refine HN.out.mono ?_
  rintro e w2 ⟨p, rfl, hd2, hb2⟩
  dsimp only
  have HD2 := hideIt hd2
  have HB2 := hideIt hb2
  clear hd2 hb2 HN HP
  go_wp2_with fail
  refine (begun_any _).mono ?_
  rintro e w3 ⟨rfl, hb3⟩
  dsimp only
  have HB3 := hideIt (HB2.out.trans (hb3.mono HB2.out.size))
  have HD3 := hideIt (show DiskB w3 w1.heap.size p _ 0 from (DiskAt.below HD2.out hb3).wide (fun k hk hl => ⟨hk.1, hl⟩))
  clear HD2 HB2 hb3
  go_wp2_with fail
  refine (HF.out _ HB3.out).mono ?_
  rintro e w4 ⟨rfl, rfl⟩
  dsimp only
  clear HF
  go_wp2
  go_loopw [7] (fun v wr => ∃ (t N : Nat) (S : St), t ≤ l.length ∧ v = .int .i64 (t : Int) ∧ N ≤ t ∧ Hid (DiskB wr w1.heap.size p S N) ∧ Hid (Below w1.heap.size w1 wr)) (fun v _ => l.length - (intOf v).toNat)
  case atStart => exact ⟨0, 0, _, by omega, rfl, Nat.le_refl _, HD3, HB3⟩
  case round =>
    obtain ⟨t, N, S, htl, rfl, hNt, HD, HB⟩ := hrel
    by_cases hlt : t < l.length
    · have hlt' : (t : Int) < l.length := by omega
      obtain ⟨b, off, rfl, hbl, o0, o1, o2, o3, o4, i0, i1, i2, hkn⟩ := HL.out t hlt
      generalize l[t] = o at *
      obtain ⟨dO, seg, n, bytes, keep, ka, kc⟩ := o
      dsimp only at o0 o1 o2 o3 o4 i0 i1 i2 hkn
      have c0 : wr.cell? ⟨b, off + t * 5, none⟩ = some (.int .i64 dO) := (HB.out.cell (p := ⟨b, off + t * 5, none⟩) hbl).trans o0
      have c1 : wr.cell? ⟨b, off + t * 5 + 1, none⟩ = some (.int .i64 seg) := (HB.out.cell (p := ⟨b, off + t * 5 + 1, none⟩) hbl).trans o1
      have c2 : wr.cell? ⟨b, off + t * 5 + 2, none⟩ = some (.int .i64 n) := (HB.out.cell (p := ⟨b, off + t * 5 + 2, none⟩) hbl).trans o2
      have c3 : wr.cell? ⟨b, off + t * 5 + 3, none⟩ = some (.string bytes) := (HB.out.cell (p := ⟨b, off + t * 5 + 3, none⟩) hbl).trans o3
      have c4 : wr.cell? ⟨b, off + t * 5 + 4, none⟩ = some (.slice ka keep.length kc) := (HB.out.cell (p := ⟨b, off + t * 5 + 4, none⟩) hbl).trans o4
      clear o0 o1 o2 o3 o4
      go_upto_region 9 with fail
      have hX1 : Below w1.heap.size w1 (wr.alloc (Obj.cells #[Value.int IntKind.i64 dO, Value.int IntKind.i64 seg, Value.int IntKind.i64 n, Value.string bytes, Value.slice ka keep.length kc] 37)) := HB.out.alloc HB.out.size _
      have hX2 : DiskB (wr.alloc (Obj.cells #[Value.int IntKind.i64 dO, Value.int IntKind.i64 seg, Value.int IntKind.i64 n, Value.string bytes, Value.slice ka keep.length kc] 37)) w1.heap.size p S N := HD.out.keep ((Below.refl _ wr).alloc (Nat.le_refl _) _)
      have hz := heap_alloc_new wr (Obj.cells #[Value.int IntKind.i64 dO, Value.int IntKind.i64 seg, Value.int IntKind.i64 n, Value.string bytes, Value.slice ka keep.length kc] 37)
      generalize wr.alloc (Obj.cells #[Value.int IntKind.i64 dO, Value.int IntKind.i64 seg, Value.int IntKind.i64 n, Value.string bytes, Value.slice ka keep.length kc] 37) = X at *
      generalize wr.heap.size = z at *
      have d0 : X.cell? ⟨z, 0, none⟩ = some (.int .i64 dO) := by rw [cell_at hz]; rfl
      have d1 : X.cell? ⟨z, 1, none⟩ = some (.int .i64 seg) := by rw [cell_at hz]; rfl
      have d2 : X.cell? ⟨z, 2, none⟩ = some (.int .i64 n) := by rw [cell_at hz]; rfl
      have d3 : X.cell? ⟨z, 3, none⟩ = some (.string bytes) := by rw [cell_at hz]; rfl
      have d4 : X.cell? ⟨z, 4, none⟩ = some (.slice ka keep.length kc) := by rw [cell_at hz]; rfl
      have HX1 := hideIt hX1
      have HX2 := hideIt hX2
      have HK := hideIt hkn
      have HI1 := hideIt i1
      have HI2 := hideIt i2
      clear hX1 hX2 hz c0 c1 c2 c3 c4 HD HB hkn i0 i1 i2
      by_cases q0 : dO = 0
      · subst q0
        clear hc hm
        go_wp2_with fail
        refine (appendB HX2.out HX1.out.size seg bytes (by omega)).mono ?_
        rintro e w5 ⟨rfl, hd5, hb5⟩
        dsimp only
        have HD5 := hideIt hd5
        have HB5 := hideIt (HX1.out.trans hb5)
        clear hd5 hb5
        go_wp2
        go_roundw
        case rel => exact ⟨t + 1, N + 1, _, by omega, by go_num, by omega, HD5, HB5⟩
        case measure => simp [intOf]; omega
      by_cases q1 : dO = 1
      · subst q1
        clear q0
        go_wp2_with fail
        refine (syncB HX2.out HX1.out.size (by omega)).mono ?_
        rintro e w5 ⟨rfl, hd5, hb5⟩
        dsimp only
        have HD5 := hideIt hd5
        have HB5 := hideIt (HX1.out.trans hb5)
        clear hd5 hb5
        go_wp2
        go_roundw
        case rel => exact ⟨t + 1, N + 1, _, by omega, by go_num, by omega, HD5, HB5⟩
        case measure => simp [intOf]; omega
      by_cases q2 : dO = 2
      · subst q2
        clear q0 q1
        go_wp2_with fail
        refine (cutB HX2.out HX1.out.size seg n HI1.out.wf (by omega)).mono ?_
        rintro e w5 ⟨rfl, hd5, hb5⟩
        dsimp only
        have HD5 := hideIt hd5
        have HB5 := hideIt (HX1.out.trans hb5)
        clear hd5 hb5
        go_wp2
        go_roundw
        case rel => exact ⟨t + 1, N + 1, _, by omega, by go_num, by omega, HD5, HB5⟩
        case measure => simp [intOf]; omega
      by_cases q3 : dO = 3
      · subst q3
        clear q0 q1 q2
        go_wp2_with fail
        refine (dropB HX2.out HX1.out.size seg HI1.out.wf (by omega)).mono ?_
        rintro e w5 ⟨rfl, hd5, hb5⟩
        dsimp only
        have HD5 := hideIt hd5
        have HB5 := hideIt (HX1.out.trans hb5)
        clear hd5 hb5
        go_wp2
        go_roundw
        case rel => exact ⟨t + 1, N + 1, _, by omega, by go_num, by omega, HD5, HB5⟩
        case measure => simp [intOf]; omega
      by_cases q4 : dO = 4
      · subst q4
        clear q0 q1 q2 q3
        go_wp2_with fail
        refine (fuseB HX2.out HX1.out.size n HI2.out.2).mono ?_
        rintro e w5 ⟨rfl, hd5, hb5⟩
        dsimp only
        have HD5 := hideIt hd5
        have HB5 := hideIt (HX1.out.trans hb5)
        clear hd5 hb5
        go_wp2
        go_roundw
        case rel => exact ⟨t + 1, N + 1, _, by omega, by go_num, by omega, HD5.out.more (by omega) (by omega), HB5⟩
        case measure => simp [intOf]; omega
      by_cases q5 : dO = 5
      · subst q5
        clear q0 q1 q2 q3 q4
        go_wp2_with fail
        refine (crashB HX2.out HX1.out ka keep kc HK.out (by omega)).mono ?_
        rintro e w5 ⟨rfl, hd5, hb5⟩
        dsimp only
        have HD5 := hideIt hd5
        have HB5 := hideIt (HX1.out.trans hb5)
        clear hd5 hb5
        go_wp2
        go_roundw
        case rel => exact ⟨t + 1, N + 1, _, by omega, by go_num, by omega, HD5, HB5⟩
        case measure => simp [intOf]; omega
      have g0 : (dO == 0) = false := beq_eq_false_iff_ne.2 q0
      have g1 : (dO == 1) = false := beq_eq_false_iff_ne.2 q1
      have g2 : (dO == 2) = false := beq_eq_false_iff_ne.2 q2
      have g3 : (dO == 3) = false := beq_eq_false_iff_ne.2 q3
      have g4 : (dO == 4) = false := beq_eq_false_iff_ne.2 q4
      have g5 : (dO == 5) = false := beq_eq_false_iff_ne.2 q5
      clear q0 q1 q2 q3 q4 q5
      go_wp2
      go_roundw
      case rel => exact ⟨t + 1, N, S, by omega, by go_num, by omega, HX2, HX1⟩
      case measure => simp [intOf]; omega
    · have hlt' : ¬ (t : Int) < l.length := by omega
      go_wp2
      go_ret
      exact ⟨p, S, N, rfl, HD.out, by omega, HB.out⟩
end Go.Proofs.Ytpgimffghaelhaa
