/- Behind a crash each segment has a beginning of what it had: the walk of the statement (P3.1, P3.2). -/
import Derived.Test.YtpgimffghaelhaaPlayed
import Derived.Test.YtpgimffghaelhaaCopy
import Derived.Test.YtpgimffghaelhaaLooks
import Derived.Test.YtpgimffghaelhaaSurvP
namespace Go.Proofs.Ytpgimffghaelhaa
open Go.RowKit Go.Maps

theorem bytes_is {w : World} {F : Nat → Prop} {p : Nat} {S : St} {N : Nat} (h : DiskAt w F p S N) (k : Nat) (hk : k < 1000) (h0 : S.fuse ≠ 0) :
    Calls Try.prog 23 #[.pointer (some ⟨p, 0, none⟩), .int .i64 (k : Int)] w fun e w' => e = .returned (.string ⟨(S.seg k).bytes.toArray⟩) ∧ Below w.heap.size w w' := by
  have H := hideIt (read_is h (k : Int) (wf64 _ (by omega) (by omega)))
  rw [readV_all S k h0 hk] at H
  clear h h0
  go_enter Try.func23, Try.ntmps23
  go_wp2_with fail
  refine H.out.mono ?_
  rintro e w1 ⟨rfl, hb⟩
  dsimp only
  go_wp2
  go_ret
  exact ⟨rfl, hb⟩
theorem oneS (x : ByteArray) : ∀ u ∈ [Value.string x], u.oneCell' = true := by
  intro u hu
  obtain rfl : u = .string x := by simpa using hu
  rfl
theorem numsAt_nil (w : World) : NumsAt w none [] := ⟨0, 0, fun j hj => by simp at hj⟩
theorem keep_nil (w : World) (F : Nat → Prop) : Keep w F none [] := ⟨0, 0, fun j hj => by simp at hj⟩
theorem own_keep {w w' : World} {B : Nat} {e : TypeId} {sz : Nat} {v : Value} {n : Nat} {xs : List Value} (h : w.ownsRow B e sz v n xs) (hb : ∀ k, B ≤ k → k < w.heap.size → w'.heap[k]? = w.heap[k]?) : w'.ownsRow B e sz v n xs := by
  obtain ⟨h1, h2 | ⟨g, cap, cur, rfl, hg, hcur, r⟩⟩ := h
  · exact ⟨h1, .inl h2⟩
  · exact ⟨h1, .inr ⟨g, cap, cur, rfl, hg, (hb g hg (Array.getElem?_eq_some_iff.1 hcur).1).trans hcur, r⟩⟩
def txt (f : Nat → Seg) (k : Nat) : Value := .string ⟨(f k).bytes.toArray⟩
theorem ext_take (L : List UInt8) (m : Nat) : (⟨L.toArray⟩ : ByteArray).extract 0 m = ⟨(L.take m).toArray⟩ := by
  apply ByteArray.ext
  apply Array.ext'
  simp
theorem size_of (L : List UInt8) : (⟨L.toArray⟩ : ByteArray).size = L.length := by simp [ByteArray.size]
/-- A row of texts of its own, opened. -/
theorem open_row {w : World} {B : Nat} {v : Value} {l : List Nat} {f : Nat → Seg} (h : w.ownsRow B 9 1 v l.length ((l.take l.length).map (txt f))) :
    ∃ a c g, v = .slice a l.length c ∧ ∀ t (h : t < l.length), a = some ⟨g, 0, none⟩ ∧ g < w.heap.size ∧ w.cell? ⟨g, t, none⟩ = some (.string ⟨(f l[t]).bytes.toArray⟩) := by
  rw [List.take_of_length_le (Nat.le_refl _)] at h
  obtain ⟨_, ⟨rfl, hn⟩ | ⟨g, cap, cur, rfl, _, hcur, _, _, _, htk⟩⟩ := h
  · exact ⟨none, 0, 0, by rw [hn], fun t ht => by omega⟩
  · refine ⟨_, cap, g, rfl, fun t ht => ⟨rfl, (Array.getElem?_eq_some_iff.1 hcur).1, ?_⟩⟩
    rw [cell_at hcur]
    rw [Nat.mul_one] at htk
    have e : (cur.toList.take l.length)[t]? = some (txt f l[t]) := by
      rw [htk]
      simp [ht]
    rw [List.getElem?_take, if_pos ht] at e
    simpa [txt] using e
set_option maxHeartbeats 8000000 in
set_option maxRecDepth 100000 in
theorem surv_walk (w : World) (x : Int) (hx : i64B x) (a : Option Addr) (cap : Nat) (l0 : List OpV) (h : OpsAt w a l0) (hc : l0.length ≤ cap) (hm : cap ≤ 9223372036854775807) (ka : Option Addr) (kc : Nat) (keep : List Int) (hk : NumsAt w ka keep) :
    Calls Try.prog 5 #[.int .i64 x, .slice a l0.length cap, .slice ka keep.length kc] w fun e w' => e = .returned (.bool true) ∧ Below w.heap.size w w' := by
  have H1 := hideIt (played_is w x hx a cap l0 h hc hm)
  have HK := hideIt hk
  obtain ⟨i0, hi9, hz0, hz1, hz2⟩ := info_parts info9
  have Hi9 := hideIt hi9
  clear h hk hi9
  go_enter Try.func5, Try.ntmps5
  go_wp2_with fail
  refine H1.out.mono ?_
  rintro e w1 ⟨p, S1, N1, rfl, hd1, hN1, hb1⟩
  dsimp only
  have HB1 := hideIt hb1
  have H2 := hideIt (fuseB hd1 hb1.size (-1) (by omega))
  clear H1 hb1 hd1
  go_wp2_with fail
  refine H2.out.mono ?_
  rintro e w2 ⟨rfl, hd2, hb2⟩
  dsimp only
  have hf2 : (fuseS S1 (-1)).fuse = -1 := by unfold fuseS; rw [if_neg (by omega)]
  generalize fuseS S1 (-1) = S at *
  have HB2 := hideIt (HB1.out.trans hb2)
  have HD2 := hideIt hd2
  have hgood : good S := by
    obtain ⟨_, _, _, _, _, _, _, _, _, _, hg, _⟩ := hd2
    exact hg
  have HG := hideIt hgood
  have hsg : segments S = nums S.seg 1000 := by unfold segments; rw [if_neg (by omega)]
  have H3 := hideIt (segs_is hd2)
  rw [hsg] at H3
  have Hf2 := hideIt hf2
  clear hd2 hb2 H2 HB1 hgood hsg hf2
  go_wp2_with fail
  refine H3.out.mono ?_
  rintro e w3 ⟨a3, c3, g3, rfl, hI3, hg3, hb3⟩
  dsimp only
  have hd3 : DiskAt w3 (fun k => w.heap.size ≤ k ∧ k < w2.heap.size) p S N1 := DiskAt.below HD2.out hb3
  have s23 := hb3.size
  have HB3 := hideIt (HB2.out.trans (hb3.mono HB2.out.size))
  have H4 := hideIt (copy_is hd3 (fun k hk => by omega))
  have HD3 := hideIt hd3
  have HI3 := hideIt hI3
  have hnl := nums_len S.seg 1000
  have hnl2 := mem_nums S.seg 1000
  have hlen3 : w.heap.size ≤ w2.heap.size := HB2.out.size
  generalize hld : nums S.seg 1000 = l at *
  have hgI : l ≠ [] → g3 < w3.heap.size := by
    intro hne
    obtain ⟨_, cur, hcur, _⟩ := HI3.out (by intro e; have := congrArg List.length e; simp [asInts] at this; exact hne this)
    exact (Array.getElem?_eq_some_iff.1 hcur).1
  have HgI := hideIt (show l ≠ [] → w2.heap.size ≤ g3 ∧ g3 < w3.heap.size from fun hne => ⟨hg3 hne, hgI hne⟩)
  clear hd3 hI3 hb3 H3 HD2 HB2 hgI hg3
  go_wp2_with fail
  refine H4.out.mono ?_
  rintro e w4 ⟨q, rfl, hq4, hb4⟩
  dsimp only
  have HD4 := hideIt (HD3.out.below hb4)
  have HB4 := hideIt (HB3.out.trans (hb4.mono HB3.out.size))
  have HI4 := hideIt (HI3.out.keep (w' := w4) (fun hl => hb4.block _ hl))
  have s34 := hb4.size
  have H5 := hideIt (crash_is hq4 (by omega) (fun k hk => hk.2) none [] 0 (keep_nil _ _))
  clear hq4 hb4 H4 HD3 HB3 HI3
  go_wp2_with fail
  refine H5.out.mono ?_
  rintro e w5 ⟨rfl, hq5, ho5⟩
  dsimp only
  have HD5 := hideIt (HD4.out.keep (w' := w5) (fun k hk hl => ho5.block k hl (fun h => by omega)))
  have HB5 := hideIt (HB4.out.trans (ho5.below (by omega) (fun k hk => by omega)))
  have HI5 : Hid (Ints w5 g3 a3 (asInts l)) := by
    by_cases hne : l = []
    · subst hne
      exact fun h => absurd rfl h
    · have := HgI.out hne
      exact HI4.out.keep (w' := w5) (fun hl => ho5.block _ hl (fun h => by omega))
  have s45 := ho5.size
  have HQ5 := hideIt hq5
  have hSn : (crashS S []).seg = crashSeg S.seg [] 1000 := rfl
  have hfn : (crashS S []).fuse = -1 := rfl
  generalize crashS S [] = Sn at *
  have HSn := hideIt hSn
  have Hfn := hideIt hfn
  clear hq5 ho5 H5 HD4 HB4 HI4 hSn hfn
  go_wp2
  go_loopw [10, 11] (fun o v wr => ∃ t : Nat, t ≤ l.length ∧ v = .int .i64 (t : Int) ∧ Hid (wr.ownsRow w5.heap.size 9 1 o t ((l.take t).map (txt S.seg))) ∧ Hid (Below w5.heap.size w5 wr)) (fun _ v _ => l.length - (intOf v).toNat)
  case atStart => exact ⟨0, by omega, rfl, ⟨by simp, .inl ⟨rfl, by simp⟩⟩, Below.refl _ _⟩
  case round =>
    obtain ⟨t, htl, rfl, HO, HB⟩ := hrel
    have hDr : DiskAt wr _ p S N1 := HD5.out.below HB.out
    have hJ : Ints wr g3 a3 (asInts l) := HI5.out.keep (fun hl => HB.out.block _ hl)
    by_cases hlt : t < l.length
    · have hlt' : (t : Int) < l.length := by omega
      obtain ⟨rfl, ci⟩ := hJ.at t hlt
      have hmem := (hnl2 l[t]).1 (List.getElem_mem hlt)
      obtain ⟨hk, hne⟩ := hmem
      have htk : l.take (t + 1) = l.take t ++ [l[t]] := List.take_succ_eq_append_getElem hlt
      have htl2 : (l.take t).length = t := by simp; omega
      generalize hkd : l[t] = k at *
      have HR := hideIt (bytes_is hDr k hk (by have := Hf2.out; omega))
      have HTk := hideIt htk
      have hs5 := HB.out.size
      clear htk hDr hJ
      go_wp2_with fail
      refine HR.out.mono ?_
      rintro e w6 ⟨rfl, hb6⟩
      dsimp only
      have HO6 := hideIt (own_keep HO.out (fun j _ hl => hb6.block j hl))
      have HB6 := hideIt (HB.out.trans (hb6.mono hs5))
      have hs6 := HB6.out.size
      clear HO HB hb6 HR ci
      go_wp2_with (at_builtin; refine wpList_append_own _ rfl _ _ 48 rfl w5.heap.size 9 i0 (.string ⟨#[]⟩) 1 16 Try.underlying48 Hi9.out hz0 hz1 hz2 rfl (by decide) _ _ _ rfl (HO6.out.alloc _) ⟨w6.heap.size, 0, none⟩ 1 1 [.string ⟨(S.seg k).bytes.toArray⟩] rfl rfl (cell_one_new _ _ _) (oneS _) (by unfold maxLen; omega) (by omega) (by simp; omega) ?_)
      intro v' w7 hown7 hgrow hnil
      have Ho7 := hideIt hown7
      have Hg := hideIt hgrow
      clear hown7 hgrow hnil
      go_wp2
      go_roundw
      case rel =>
        refine ⟨t + 1, by omega, by go_num, ?_, ?_⟩
        · show w7.ownsRow w5.heap.size 9 1 v' (t + 1) _
          rw [HTk.out, List.map_append, List.map_take]
          exact Ho7.out
        · exact (HB6.out.alloc hs6 _).grown Hg.out (by simp; omega) (by
            intro j hj
            obtain ⟨_, ⟨rfl, _⟩ | ⟨g, cap, cur, rfl, hgB, _⟩⟩ := HO6.out
            · cases hj
            · simp [Value.ownBlock] at hj
              omega)
      case measure => simp [intOf]; omega
    · have hlt' : ¬ (t : Int) < l.length := by omega
      obtain rfl : t = l.length := by omega
      have hs5 := HB.out.size
      have hKr : Keep wr (fun k => w.heap.size ≤ k ∧ k < w2.heap.size) ka keep := by
        obtain ⟨kb, ko, hkk⟩ := HK.out
        have hbw := HB5.out.trans (HB.out.mono (by have := HB5.out.size; omega))
        refine ⟨kb, ko, fun j hj => ?_⟩
        obtain ⟨k1, k2, k3, k4, k5⟩ := hkk j hj
        exact ⟨k1, Nat.lt_of_lt_of_le k2 hbw.size, fun h => by omega, (hbw.cell (p := ⟨kb, ko + j, none⟩) k2).trans k3, k4, k5⟩
      have HC := hideIt (crash_is hDr (by omega) (fun k hk => by omega) ka keep kc hKr)
      have HQr := hideIt (HQ5.out.below HB.out)
      have HJ := hideIt hJ
      clear hDr hJ hKr
      go_wp2_with fail
      refine HC.out.mono ?_
      rintro e w7 ⟨rfl, hd7, ho7⟩
      dsimp only
      have s7 := ho7.size
      have HD7 := hideIt hd7
      have HQ7 := hideIt (HQr.out.keep (w' := w7) (fun k hk hl => ho7.block k hl (fun h => by omega)))
      have HJ7 : Hid (Ints w7 g3 a3 (asInts l)) := by
        by_cases hne : l = []
        · subst hne
          exact fun h => absurd rfl h
        · have := HgI.out hne
          exact HJ.out.keep (w' := w7) (fun hl => ho7.block _ hl (fun h => by omega))
      have HO7 := hideIt (own_keep HO.out (fun j hj hl => ho7.block j hl (fun h => by omega)))
      have HB7 := hideIt (((HB5.out.trans (HB.out.mono (by have := HB5.out.size; omega)))).trans (ho7.below (by have := HB5.out.size; omega) (fun k hk => by omega)))
      have hSd : (crashS S keep).seg = crashSeg S.seg keep 1000 := rfl
      have hfd : (crashS S keep).fuse = -1 := rfl
      generalize crashS S keep = Sd at *
      have HSd := hideIt hSd
      have Hfd := hideIt hfd
      obtain ⟨ab, cb, gb, rfl, hbef⟩ := open_row HO7.out
      have HBe := hideIt hbef
      clear hd7 ho7 HC HQr HJ HO HB hSd hfd HD5 HQ5 HI5 HB5 HO7 hbef
      go_wp2
      go_loopw [12] (fun v wr => ∃ t : Nat, t ≤ l.length ∧ v = .int .i64 (t : Int) ∧ Hid (Below w7.heap.size w7 wr)) (fun v _ => l.length - (intOf v).toNat)
      case atStart => exact ⟨0, by omega, rfl, Below.refl _ _⟩
      case round =>
        obtain ⟨t, htl2, rfl, HB⟩ := hrel
        by_cases hlt2 : t < l.length
        · have hlt2' : (t : Int) < l.length := by omega
          have hJr : Ints wr g3 a3 (asInts l) := HJ7.out.keep (fun hl => HB.out.block _ hl)
          obtain ⟨rfl, ci⟩ := hJr.at t hlt2
          have hmem := (hnl2 l[t]).1 (List.getElem_mem hlt2)
          obtain ⟨hk, hne⟩ := hmem
          obtain ⟨rfl, hgb, cb0⟩ := HBe.out t hlt2
          have cbt : wr.cell? ⟨gb, t, none⟩ = some (.string ⟨(S.seg l[t]).bytes.toArray⟩) := (HB.out.cell (p := ⟨gb, t, none⟩) hgb).trans cb0
          generalize hkd : l[t] = k at *
          have R1 := hideIt (bytes_is (HD7.out.below HB.out) k hk (by have := Hfd.out; omega))
          rw [HSd.out, crash_bytes S.seg keep k hk] at R1
          have hle1 := left_le S.seg keep k (HG.out.2.1 k)
          have hle2 := left_nil S.seg keep k
          have hs7 := HB.out.size
          have R2' := fun W (hb : Below w7.heap.size w7 W) => bytes_is (HQ7.out.below hb) k hk (by have := Hfn.out; omega)
          rw [HSn.out, crash_bytes S.seg [] k hk] at R2'
          have R2 := hideIt R2'
          clear R2'
          generalize left S.seg keep k = m at *
          generalize left S.seg [] k = m0 at *
          generalize (S.seg k).bytes = L at *
          clear hJr cb0
          go_wp2_with fail
          refine R1.out.mono ?_
          rintro e w8 ⟨rfl, hb8⟩
          dsimp only
          have HB8 := hideIt (HB.out.trans (hb8.mono hs7))
          have cb8 : w8.cell? ⟨gb, t, none⟩ = some (.string ⟨L.toArray⟩) := (hb8.cell (p := ⟨gb, t, none⟩) (Nat.lt_of_lt_of_le hgb hs7)).trans cbt
          have ci8 : w8.cell? ⟨g3, t, none⟩ = some (.int .i64 (k : Int)) := by
            have hJ8 : Ints w8 g3 (some ⟨g3, 0, none⟩) (asInts l) := HJ7.out.keep (fun hl => HB8.out.block _ hl)
            have := (hJ8.at t hlt2).2
            rwa [hkd] at this
          clear cbt ci hb8 R1 HB
          go_wp2_with fail
          refine (R2.out _ HB8.out).mono ?_
          rintro e w9 ⟨rfl, hb9⟩
          dsimp only
          have HB9 := hideIt (HB8.out.trans (hb9.mono HB8.out.size))
          have cb9 : w9.cell? ⟨gb, t, none⟩ = some (.string ⟨L.toArray⟩) := (hb9.cell (p := ⟨gb, t, none⟩) (Nat.lt_of_lt_of_le hgb HB8.out.size)).trans cb8
          clear cb8 ci8 hb9 R2 HB8
          have t1 : (⟨L.toArray⟩ : ByteArray).extract 0 (⟨(L.take m).toArray⟩ : ByteArray).size = ⟨(L.take m).toArray⟩ := by
            rw [size_of, ext_take]
            simp
          have t2 : (⟨(L.take m).toArray⟩ : ByteArray).extract 0 (⟨(L.take m0).toArray⟩ : ByteArray).size = ⟨(L.take m0).toArray⟩ := by
            rw [size_of, ext_take]
            congr 2
            rw [List.take_take]
            simp
            omega
          have z1 : (⟨(L.take m).toArray⟩ : ByteArray).size = m := by rw [size_of]; simp; omega
          have z2 : (⟨(L.take m0).toArray⟩ : ByteArray).size = m0 := by rw [size_of]; simp; omega
          have z3 : (⟨L.toArray⟩ : ByteArray).size = L.length := size_of L
          generalize (⟨L.toArray⟩ : ByteArray) = tA at *
          generalize (⟨(L.take m).toArray⟩ : ByteArray) = tI at *
          generalize (⟨(L.take m0).toArray⟩ : ByteArray) = tZ at *
          have u1 : ¬ ((tA.size : Int) < tI.size) := by omega
          have u2 : (tI.size : Int) ≤ tA.size := by omega
          have u3 : ¬ ((tI.size : Int) < tZ.size) := by omega
          have u4 : (tZ.size : Int) ≤ tI.size := by omega
          clear z1 z2 z3
          go_wp2
          go_roundw
          case rel => exact ⟨t + 1, by omega, by go_num, HB9⟩
          case measure => simp [intOf]; omega
        · have hlt2' : ¬ (t : Int) < l.length := by omega
          have e1 : crashN Sd = 0 := waiting_zero Sd.seg (fun k hk => by rw [HSd.out]; exact crash_safe S.seg keep k hk) 1000 (Nat.le_refl _)
          have eseg : (crashS Sd []).seg = Sd.seg := by
            show crashSeg Sd.seg [] 1000 = Sd.seg
            rw [HSd.out]
            exact crash_twice S.seg keep
          have es1 : segments (crashS Sd []) = nums Sd.seg 1000 := by
            unfold segments
            rw [if_neg (show ¬ (crashS Sd []).fuse = 0 from by show ¬ (-1 : Int) = 0; omega), eseg]
          have es2 : segments Sd = nums Sd.seg 1000 := by
            unfold segments
            rw [if_neg (by have := Hfd.out; omega)]
          have hfew : (nums Sd.seg 1000).length ≤ l.length := by
            rw [← hld]
            refine nums_fewer S.seg Sd.seg (fun k hk hne e => hne ?_)
            rw [HSd.out, crash_bytes S.seg keep k hk, e]
            simp
          have hnl3 := nums_len Sd.seg 1000
          have hdr := HD7.out.below HB.out
          have C1 := hideIt (copy_is hdr (fun k hk => by have := HB.out.size; omega))
          have HDr := hideIt hdr
          have hsr := HB.out.size
          clear hdr
          generalize hlq : nums Sd.seg 1000 = lq at *
          go_wp2_with fail
          refine C1.out.mono ?_
          rintro e w8 ⟨pc, rfl, hp8, hb8⟩
          dsimp only
          have HD8 := hideIt (HDr.out.below hb8)
          have HB8 := hideIt (HB.out.trans (hb8.mono hsr))
          have C2 := hideIt (crash_is hp8 (by omega) (fun k hk => hk.2) none [] 0 (keep_nil _ _))
          rw [e1] at C2
          have s8 := hb8.size
          clear hp8 hb8 C1 HDr
          go_wp2_with fail
          refine C2.out.mono ?_
          rintro e w9 ⟨rfl, hp9, ho9⟩
          dsimp only
          have HD9 := hideIt (HD8.out.keep (w' := w9) (fun k hk hl => ho9.block k hl (fun h => by omega)))
          have HB9 := hideIt (HB8.out.trans (ho9.below (by omega) (fun k hk => by omega)))
          have C3 := hideIt (segs_is hp9)
          rw [es1] at C3
          have HP9 := hideIt hp9
          clear hp9 ho9 C2 HD8 HB8
          go_wp2_with fail
          refine C3.out.mono ?_
          rintro e w10 ⟨a10, c10, g10, rfl, hI10, _, hb10⟩
          dsimp only
          have HD10 := hideIt (HD9.out.below hb10)
          have HP10 := hideIt (HP9.out.below hb10)
          have HB10 := hideIt (HB9.out.trans (hb10.mono HB9.out.size))
          have HI10 := hideIt hI10
          have C4 := hideIt (segs_is HD10.out)
          rw [es2] at C4
          clear hI10 hb10 C3 HD9 HP9 HB9
          go_wp2_with fail
          refine C4.out.mono ?_
          rintro e w11 ⟨a11, c11, g11, rfl, hI11, _, hb11⟩
          dsimp only
          have HD11 := hideIt (HD10.out.below hb11)
          have HP11 := hideIt (HP10.out.below hb11)
          have HB11 := hideIt (HB10.out.trans (hb11.mono HB10.out.size))
          have C5 := hideIt (same_is w11 a10 a11 c10 c11 g10 g11 lq hnl3 (HI10.out.keep (fun hl => hb11.block _ hl)) hI11)
          clear hI11 hb11 C4 HD10 HP10 HB10 HI10
          go_wp2_with fail
          refine C5.out.mono ?_
          rintro e w12 ⟨rfl, hb12⟩
          dsimp only
          have HD12 := hideIt (HD11.out.below hb12)
          have HP12 := hideIt (HP11.out.below hb12)
          have HB12 := hideIt (HB11.out.trans (hb12.mono HB11.out.size))
          have C6 := hideIt (segs_is HD12.out)
          rw [es2] at C6
          clear hb12 C5 HD11 HP11 HB11
          go_wp2_with fail
          refine C6.out.mono ?_
          rintro e w13 ⟨a13, c13, g13, rfl, hI13, _, hb13⟩
          dsimp only
          have HD13 := hideIt (HD12.out.below hb13)
          have HP13 := hideIt (HP12.out.below hb13)
          have HB13 := hideIt (HB12.out.trans (hb13.mono HB12.out.size))
          have C7 := hideIt (fields_is HP13.out).2.1
          rw [eseg] at C7
          have hfew' : (lq.length : Int) ≤ (l.length : Int) := by omega
          clear hb13 hI13 C6 HD12 HP12 HB12
          go_wp2_with fail
          refine C7.out.mono ?_
          rintro e w14 ⟨rfl, hb14⟩
          dsimp only
          have HD14 := hideIt (HD13.out.below hb14)
          have HB14 := hideIt (HB13.out.trans (hb14.mono HB13.out.size))
          have C8 := hideIt (fields_is HD14.out).2.1
          clear hb14 C7 HD13 HP13 HB13
          go_wp2_with fail
          refine C8.out.mono ?_
          rintro e w15 ⟨rfl, hb15⟩
          dsimp only
          go_wp2
          go_ret
          have hB := HB14.out.trans (hb15.mono HB14.out.size)
          exact ⟨by simp, HB7.out.trans (hB.mono (by have := HB7.out.size; omega))⟩
end Go.Proofs.Ytpgimffghaelhaa
