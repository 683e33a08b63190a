/- Whatever is called, both disks answer and hold the same: the walk of the statement (D1 to D8, P3.3). -/
import Derived.Test.YtpgimffghaelhaaDoes
import Derived.Test.YtpgimffghaelhaaPlayed
import Derived.Test.YtpgimffghaelhaaCopy
namespace Go.Proofs.Ytpgimffghaelhaa
open Go.RowKit Go.Maps

def noZ : Nat → Prop := fun _ => False
def noH : Nat → Option Obj := fun _ => none
theorem Pair.looks {w0 W : World} {Z : Nat → Prop} {H : Nat → Option Obj} {p q : Nat} {S : St} {N : Nat} (h : Pair w0 W Z H p q S N S N) (i : Int) (hi : i64B i) : Calls Try.prog 10 #[.pointer (some ⟨p, 0, none⟩), .pointer (some ⟨q, 0, none⟩), .int .i64 i] W fun e w' => e = .returned (.bool true) ∧ Below W.heap.size W w' := by
  obtain ⟨F1, F2, hD, hR, h1, h2, hz, hb⟩ := h
  exact looks_is hD hR (fun k hk => (h1 k hk).1) (fun k hk => (h2 k hk).1) i hi.wf
set_option maxHeartbeats 8000000 in
set_option maxRecDepth 100000 in
theorem script_walk (w : World) (x : Int) (hx : i64B x) (a : Option Addr) (cap : Nat) (l0 : List OpV) (h : OpsAt w a l0) (hc : l0.length ≤ cap) (hm : cap ≤ 9223372036854775807) :
    Calls Try.prog 4 #[.int .i64 x, .slice a l0.length cap] w fun e w' => e = .returned (.bool true) ∧ Below w.heap.size w w' := by
  have hpl : pickN x 2000 < 2000 := Nat.mod_lt _ (by omega)
  have HP := hideIt (pick_is x 2000 w hx (by omega) (by omega))
  have hN := new_good (256 + pickN x 2000) w (by omega) (by omega)
  have hM := fun W => refNew_good (256 + pickN x 2000) W (by omega) (by omega)
  rw [show ((256 + pickN x 2000 : Nat) : Int) = 256 + (pickN x 2000 : Int) by omega] at hN
  simp only [show ((256 + pickN x 2000 : Nat) : Int) = 256 + (pickN x 2000 : Int) by omega] at hM
  have HN := hideIt hN
  have HM := hideIt hM
  have HF := hideIt (fun W (hb : Below w.heap.size w W) => few_is W a cap l0 (h.below hb) hc hm)
  have hL := h.take 60
  have hl60 : (l0.take 60).length ≤ 60 := by simp; omega
  generalize l0.take 60 = l at *
  have HL := hideIt hL
  clear h hL hN hM
  generalize pickN x 2000 = r at *
  go_enter Try.func4, Try.ntmps4
  go_wp2_with fail
  refine HP.out.mono ?_
  rintro e w1 ⟨rfl, rfl⟩
  dsimp only
  go_wp2_with fail
  refine HN.out.mono ?_
  rintro e w2 ⟨p0, rfl, hd2, hb2⟩
  dsimp only
  have HD2 := hideIt hd2
  have HB2 := hideIt hb2
  clear hd2 hb2 HN HP
  go_wp2_with fail
  refine (HM.out _).mono ?_
  rintro e w3 ⟨q0, rfl, hr3, hb3⟩
  dsimp only
  have s2 := HB2.out.size
  have s3 := hb3.size
  have hP3 : Pair w1 w3 noZ noH p0 q0 (newS (256 + r)) 0 (newS (256 + r)) 0 := by
    refine ⟨_, _, HD2.out.below hb3, hr3, fun k hk => ⟨by omega, hk.1, fun h => by omega, fun h => h⟩, fun k hk => ⟨hk.2, by omega, fun h => h⟩, fun b hb => hb.elim, HB2.out.trans (hb3.mono s2)⟩
  have HP3 := hideIt hP3
  clear hP3 hr3 hb3 HD2 HB2 HM
  go_wp2_with fail
  refine (begun_any _).mono ?_
  rintro e w4 ⟨rfl, hb4⟩
  dsimp only
  have HP4 := hideIt (HP3.out.below hb4)
  have hB4 : Below w1.heap.size w1 w4 := by obtain ⟨_, _, _, _, _, _, _, hb⟩ := HP4.out; exact hb
  have HB4 := hideIt hB4
  clear HP3 hb4 hB4
  go_wp2_with fail
  refine (HF.out _ HB4.out).mono ?_
  rintro e w5 ⟨rfl, rfl⟩
  dsimp only
  clear HF HB4
  go_wp2
  go_loopw [5, 7, 9] (fun d k v wr => ∃ (t p q N : Nat) (S : St), t ≤ l.length ∧ d = .pointer (some ⟨p, 0, none⟩) ∧ k = .pointer (some ⟨q, 0, none⟩) ∧ v = .int .i64 (t : Int) ∧ N ≤ t ∧ Hid (Pair w1 wr noZ noH p q S N S N)) (fun _ _ v _ => l.length - (intOf v).toNat)
  case atStart => exact ⟨0, p0, q0, 0, _, by omega, rfl, rfl, rfl, Nat.le_refl _, HP4⟩
  case round =>
    obtain ⟨t, p, q, N, S, htl, rfl, rfl, rfl, hNt, HPr⟩ := hrel
    have hBr : Below w1.heap.size w1 wr := by obtain ⟨_, _, _, _, _, _, _, hb⟩ := HPr.out; exact hb
    have HB := hideIt hBr
    clear hBr
    by_cases hlt : t < l.length
    · have hlt' : (t : Int) < l.length := by omega
      obtain ⟨b, off, rfl, hbl, o0, o1, o2, o3, o4, i0, i1, i2, hkn⟩ := HL.out t hlt
      generalize l[t] = o at *
      obtain ⟨dO, seg, n, bytes, keep, ka, kc⟩ := o
      dsimp only at o0 o1 o2 o3 o4 i0 i1 i2 hkn
      have c0 : wr.cell? ⟨b, off + t * 5, none⟩ = some (.int .i64 dO) := (HB.out.cell (p := ⟨b, off + t * 5, none⟩) hbl).trans o0
      have c1 : wr.cell? ⟨b, off + t * 5 + 1, none⟩ = some (.int .i64 seg) := (HB.out.cell (p := ⟨b, off + t * 5 + 1, none⟩) hbl).trans o1
      have c2 : wr.cell? ⟨b, off + t * 5 + 2, none⟩ = some (.int .i64 n) := (HB.out.cell (p := ⟨b, off + t * 5 + 2, none⟩) hbl).trans o2
      have c3 : wr.cell? ⟨b, off + t * 5 + 3, none⟩ = some (.string bytes) := (HB.out.cell (p := ⟨b, off + t * 5 + 3, none⟩) hbl).trans o3
      have c4 : wr.cell? ⟨b, off + t * 5 + 4, none⟩ = some (.slice ka keep.length kc) := (HB.out.cell (p := ⟨b, off + t * 5 + 4, none⟩) hbl).trans o4
      clear o0 o1 o2 o3 o4 i0
      go_upto_region 11 with fail
      have hPX := HPr.out.alloc (Obj.cells #[Value.int IntKind.i64 dO, Value.int IntKind.i64 seg, Value.int IntKind.i64 n, Value.string bytes, Value.slice ka keep.length kc] 37)
      have hz := heap_alloc_new wr (Obj.cells #[Value.int IntKind.i64 dO, Value.int IntKind.i64 seg, Value.int IntKind.i64 n, Value.string bytes, Value.slice ka keep.length kc] 37)
      have hzl : wr.heap.size < (wr.alloc (Obj.cells #[Value.int IntKind.i64 dO, Value.int IntKind.i64 seg, Value.int IntKind.i64 n, Value.string bytes, Value.slice ka keep.length kc] 37)).heap.size := by simp
      obtain ⟨Z, H, hPZ, hZz, hHz⟩ : ∃ (Z : Nat → Prop) (H : Nat → Option Obj), Pair w1 (wr.alloc (Obj.cells #[Value.int IntKind.i64 dO, Value.int IntKind.i64 seg, Value.int IntKind.i64 n, Value.string bytes, Value.slice ka keep.length kc] 37)) Z H p q S N S N ∧ Z wr.heap.size ∧ H wr.heap.size = some (Obj.cells #[Value.int IntKind.i64 dO, Value.int IntKind.i64 seg, Value.int IntKind.i64 n, Value.string bytes, Value.slice ka keep.length kc] 37) := ⟨_, _, hPX, .inr rfl, by simp⟩
      clear hPX
      generalize wr.alloc (Obj.cells #[Value.int IntKind.i64 dO, Value.int IntKind.i64 seg, Value.int IntKind.i64 n, Value.string bytes, Value.slice ka keep.length kc] 37) = X at *
      generalize wr.heap.size = z at *
      have d0 : X.cell? ⟨z, 0, none⟩ = some (.int .i64 dO) := by rw [cell_at hz]; rfl
      have d1 : X.cell? ⟨z, 1, none⟩ = some (.int .i64 seg) := by rw [cell_at hz]; rfl
      have d2 : X.cell? ⟨z, 2, none⟩ = some (.int .i64 n) := by rw [cell_at hz]; rfl
      have d3 : X.cell? ⟨z, 3, none⟩ = some (.string bytes) := by rw [cell_at hz]; rfl
      have d4 : X.cell? ⟨z, 4, none⟩ = some (.slice ka keep.length kc) := by rw [cell_at hz]; rfl
      have HPZ := hideIt hPZ
      have HHz := hideIt hHz
      have HZz := hideIt hZz
      have HZ := hideIt hz
      have HI1 := hideIt i1
      clear c0 c1 c2 c3 c4 HB HPr hPZ hHz hZz hz
      by_cases q6 : dO = 6
      · subst q6
        obtain ⟨F1, F2, hD, hR, h1, h2, _, hbX⟩ := HPZ.out
        have CD := hideIt (copy_is hD (fun k hk => (h1 k hk).1))
        have HDX := hideIt hD
        have HRX := hideIt hR
        have Hh1 := hideIt h1
        have HbX := hideIt hbX
        clear hD hR h1 h2 hbX HPZ i1 i2 hkn HHz d2 d3 d4
        go_wp2_with fail
        refine CD.out.mono ?_
        rintro e w5 ⟨pc, rfl, hc5, hb5⟩
        dsimp only
        have HD5 := hideIt (HDX.out.below hb5)
        have CR := hideIt (refCopy_is (HRX.out.below hb5))
        have HC5 := hideIt hc5
        have HB5 := hideIt hb5
        have t5 := hb5.size
        clear hc5 hb5 CD HDX HRX
        go_wp2_with fail
        refine CR.out.mono ?_
        rintro e w6 ⟨qc, rfl, hm6, hb6⟩
        dsimp only
        have t6 := hb6.size
        have HD6 := hideIt (HD5.out.below hb6)
        have HC6 := hideIt (HC5.out.below hb6)
        have HM6 := hideIt hm6
        have HB6 := hideIt (HB5.out.trans (hb6.mono t5))
        have e6 : w6.cell? ⟨z, 1, none⟩ = some (.int .i64 seg) := (HB6.out.cell (p := ⟨z, 1, none⟩) hzl).trans d1
        have L6 := hideIt (looks_is HC6.out HM6.out (fun k hk => by omega) (fun k hk => by omega) seg HI1.out.wf)
        clear hm6 hb6 CR HD5 HC5 HB5
        go_wp2_with fail
        refine L6.out.mono ?_
        rintro e w7 ⟨rfl, hb7⟩
        dsimp only
        have t7 := hb7.size
        have HD7 := hideIt (HD6.out.below hb7)
        have HC7 := hideIt (HC6.out.below hb7)
        have HM7 := hideIt (HM6.out.below hb7)
        have HB7 := hideIt (HB6.out.trans (hb7.mono (by omega)))
        have C7 := hideIt (fuse_is HD7.out (-1) (by omega))
        clear hb7 L6 HD6 HC6 HM6 HB6 e6
        go_wp2_with fail
        refine C7.out.mono ?_
        rintro e w8 ⟨rfl, hd8, ho8⟩
        dsimp only
        have t8 := ho8.size
        have hF1 : ∀ k, F1 k → k < X.heap.size ∧ w1.heap.size ≤ k := fun k hk => ⟨(Hh1.out k hk).1, (Hh1.out k hk).2.1⟩
        have hF1z : ¬ F1 z := fun hk => (Hh1.out z hk).2.2.2 HZz.out
        have HD8 := hideIt hd8
        have HC8 := hideIt (HC7.out.keep (w' := w8) (fun k hk hl => ho8.block k hl (fun h => by have := hF1 k h; omega)))
        have HM8 := hideIt (HM7.out.keep (w' := w8) (fun k hk hl => ho8.block k hl (fun h => by have := hF1 k h; omega)))
        have sX := HbX.out.size
        have HB8 := hideIt ((HbX.out.trans (HB7.out.mono sX)).trans (ho8.below (by omega) (fun k hk => (hF1 k hk).2)))
        have z8 : w8.heap[z]? = X.heap[z]? := (ho8.block z (by omega) hF1z).trans (HB7.out.block z hzl)
        have C8 := hideIt (append_is hd8 0 ⟨#[120]⟩ (by omega))
        clear hd8 ho8 C7 HD7 HC7 HM7 HB7 d1
        go_wp2_with fail
        refine C8.out.mono ?_
        rintro e w9 ⟨rfl, hd9, ho9⟩
        dsimp only
        have t9 := ho9.size
        have hG : ∀ k, Grow F1 w8 w9 k → (k < X.heap.size ∨ w8.heap.size ≤ k) ∧ w1.heap.size ≤ k ∧ k < w9.heap.size := by
          rintro k (hk | hk)
          · have := hF1 k hk
            exact ⟨.inl this.1, this.2, by omega⟩
          · exact ⟨.inr hk.1, by omega, hk.2⟩
        have hGz : ¬ Grow F1 w8 w9 z := by
          rintro (hk | hk)
          · exact hF1z hk
          · omega
        have HC9 := hideIt (HC8.out.keep (w' := w9) (fun k hk hl => ho9.block k hl (fun h => by have := hF1 k h; omega)))
        have HM9 := hideIt (HM8.out.keep (w' := w9) (fun k hk hl => ho9.block k hl (fun h => by have := hF1 k h; omega)))
        have HB9 := hideIt (HB8.out.trans (ho9.below (by omega) (fun k hk => (hF1 k hk).2)))
        have z9 : w9.heap[z]? = X.heap[z]? := (ho9.block z (by omega) hF1z).trans z8
        have C9 := hideIt (sync_is hd9 (by omega) (fun k hk => (hG k hk).2.2))
        clear hd9 ho9 C8 HD8 HC8 HM8 HB8 z8
        go_wp2_with fail
        refine C9.out.mono ?_
        rintro e w10 ⟨rfl, hd10, ho10⟩
        dsimp only
        have t10 := ho10.size
        have HC10 := hideIt (HC9.out.keep (w' := w10) (fun k hk hl => ho10.block k hl (fun h => by have := hG k h; omega)))
        have HM10 := hideIt (HM9.out.keep (w' := w10) (fun k hk hl => ho10.block k hl (fun h => by have := hG k h; omega)))
        have HB10 := hideIt (HB9.out.trans (ho10.below (by omega) (fun k hk => (hG k hk).2.1)))
        have z10 : w10.heap[z]? = X.heap[z]? := (ho10.block z (by omega) hGz).trans z9
        have C10 := hideIt (drop_is hd10 1 (by decide) (by omega))
        clear hd10 ho10 C9 HC9 HM9 HB9 z9
        go_wp2_with fail
        refine C10.out.mono ?_
        rintro e w11 ⟨rfl, hd11, ho11⟩
        dsimp only
        have t11 := ho11.size
        have HC11 := hideIt (HC10.out.keep (w' := w11) (fun k hk hl => ho11.block k hl (fun h => by have := hG k h; omega)))
        have HM11 := hideIt (HM10.out.keep (w' := w11) (fun k hk hl => ho11.block k hl (fun h => by have := hG k h; omega)))
        have HB11 := hideIt (HB10.out.trans (ho11.below (by omega) (fun k hk => (hG k hk).2.1)))
        have z11 : w11.heap[z]? = some (Obj.cells #[Value.int IntKind.i64 6, Value.int IntKind.i64 seg, Value.int IntKind.i64 n, Value.string bytes, Value.slice ka keep.length kc] 37) := ((ho11.block z (by omega) hGz).trans z10).trans HZ.out
        have e11 : w11.cell? ⟨z, 1, none⟩ = some (.int .i64 seg) := by rw [cell_at z11]; rfl
        have hP11 : Pair w1 w11 noZ noH pc qc S N S N := ⟨_, _, HC11.out, HM11.out, fun k hk => ⟨by omega, by omega, fun h => by omega, fun h => h⟩, fun k hk => ⟨by omega, by omega, fun h => h⟩, fun b hb => hb.elim, HB11.out⟩
        have L11 := hideIt (hP11.looks seg HI1.out)
        have HP11 := hideIt hP11
        clear hd11 ho11 C10 HC10 HM10 HB10 z10 z11 HC11 HM11 HB11 hP11
        go_wp2_with fail
        refine L11.out.mono ?_
        rintro e w12 ⟨rfl, hb12⟩
        dsimp only
        have HP12 := hideIt (HP11.out.below hb12)
        clear hb12 L11 HP11
        go_wp2
        go_roundw
        case rel => exact ⟨t + 1, pc, qc, N, S, by omega, rfl, rfl, by go_num, by omega, HP12⟩
        case measure => simp [intOf]; omega
      · have g6 : (dO != 6) = true := by simp [q6]
        have HD := hideIt (does_is HPZ.out (by omega) ⟨dO, seg, n, bytes, keep, ka, kc⟩ i1 i2 hkn)
        simp only [callCells] at HD
        clear q6 i1 i2 hkn
        go_wp2_with fail
        refine HD.out.mono ?_
        rintro e w5 ⟨rfl, S', hP5⟩
        dsimp only
        have e1 : w5.cell? ⟨z, 1, none⟩ = some (.int .i64 seg) := by
          obtain ⟨_, _, _, _, _, _, hz5, _⟩ := hP5
          have := ((hz5 z HZz.out).2).trans HHz.out
          rw [cell_at this]; rfl
        have HLk := hideIt (hP5.looks seg HI1.out)
        have HP5 := hideIt hP5
        clear hP5 HD d0 d1 d2 d3 d4
        go_wp2_with fail
        refine HLk.out.mono ?_
        rintro e w6 ⟨rfl, hb6⟩
        dsimp only
        have HP6 := hideIt ((HP5.out.below hb6).less (Z := noZ) (H := noH) (fun b hb => hb.elim))
        clear hb6 HLk HP5 HPZ HZ
        go_wp2
        go_roundw
        case rel => exact ⟨t + 1, p, q, N + 1, S', by omega, rfl, rfl, by go_num, by omega, HP6⟩
        case measure => simp [intOf]; omega
    · have hlt' : ¬ (t : Int) < l.length := by omega
      go_wp2
      go_ret
      exact ⟨rfl, HB.out⟩
end Go.Proofs.Ytpgimffghaelhaa
