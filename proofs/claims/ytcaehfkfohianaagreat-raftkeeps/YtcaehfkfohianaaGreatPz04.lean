/- Texts of my own, laid together. -/
import Derived.Shelf.Strings.Builder1
import Derived.Shelf.LaysM
import Derived.Shelf.Strconv.Clone
import Derived.Test.YtcaehfkfohianaaGreatPz03
set_option linter.all false
namespace Go.Proofs.YtcaehfkfohianaaGreat.Nt
open Go.Shelf
def renString : Go.Shelf.Ren := ⟨fun | 169 => 205 | n => n, fun | 70 => 198 | 9 => 9 | 0 => 0 | 72 => 200 | 37 => 151 | 127 => 152 | 3 => 3 | 5 => 5 | n => n, fun | n => n⟩
theorem layString : Go.Proofs.Lays.n169 Tryz.prog renString := {
 mixed := by kernel_rfl
 f169 := Tryz.func205.trans (congrArg some (by kernel_rfl))
 t0 := Tryz.underlying0
 a0 := Tryz.isAgg0
 z0 := Tryz.sizeOf0
 v0 := Tryz.zeroValue0
 t3 := Tryz.underlying3
 a3 := Tryz.isAgg3
 z3 := Tryz.sizeOf3
 v3 := Tryz.zeroValue3
 t9 := Tryz.underlying9
 a9 := Tryz.isAgg9
 z9 := Tryz.sizeOf9
 v9 := Tryz.zeroValue9
 t37 := Tryz.underlying151
 a37 := Tryz.isAgg151
 z37 := Tryz.sizeOf151
 v37 := Tryz.zeroValue151
 t70 := Tryz.underlying198
 a70 := Tryz.isAgg198
 z70 := Tryz.sizeOf198
 v70 := Tryz.zeroValue198
 t72 := Tryz.underlying200
 a72 := Tryz.isAgg200
 z72 := Tryz.sizeOf200
 v72 := Tryz.zeroValue200
 t127 := Tryz.underlying152
 a127 := Tryz.isAgg152
 z127 := Tryz.sizeOf152
 v127 := Tryz.zeroValue152 }
theorem extraString : Builder.Extra Tryz.prog renString := {
 sizeBuilder := by kernel_rfl
 liesBuilder := by kernel_rfl
 t5 := Tryz.underlying5
 a5 := Tryz.isAgg5
 z5 := Tryz.sizeOf5
 v5 := Tryz.zeroValue5
 infoByte := by kernel_rfl
 cellsByte := by kernel_rfl
 sizeByte := by kernel_rfl
 neB5 := by decide }
def renClone : Go.Shelf.Ren := ⟨fun | 316 => 86 | n => n, fun | 9 => 9 | 3 => 3 | 4 => 4 | 37 => 151 | 0 => 0 | 127 => 152 | 5 => 5 | n => n, fun | n => n⟩
theorem layClone : Go.Proofs.LaysM.n316 Tryz.prog renClone := {
 mixed := by kernel_rfl
 f316 := Tryz.func86.trans (congrArg some (by kernel_rfl))
 t0 := Tryz.underlying0
 a0 := Tryz.isAgg0
 z0 := Tryz.sizeOf0
 v0 := Tryz.zeroValue0
 t3 := Tryz.underlying3
 a3 := Tryz.isAgg3
 z3 := Tryz.sizeOf3
 v3 := Tryz.zeroValue3
 t4 := Tryz.underlying4
 a4 := Tryz.isAgg4
 z4 := Tryz.sizeOf4
 v4 := Tryz.zeroValue4
 t9 := Tryz.underlying9
 a9 := Tryz.isAgg9
 z9 := Tryz.sizeOf9
 v9 := Tryz.zeroValue9
 t37 := Tryz.underlying151
 a37 := Tryz.isAgg151
 z37 := Tryz.sizeOf151
 v37 := Tryz.zeroValue151
 t127 := Tryz.underlying152
 a127 := Tryz.isAgg152
 z127 := Tryz.sizeOf152
 v127 := Tryz.zeroValue152
 t5 := Tryz.underlying5
 a5 := Tryz.isAgg5
 z5 := Tryz.sizeOf5
 v5 := Tryz.zeroValue5
 i0 := by kernel_rfl
 i3 := by kernel_rfl
 i4 := by kernel_rfl
 i5 := by kernel_rfl
 i9 := by kernel_rfl
 i37 := by kernel_rfl
 i127 := by kernel_rfl }
def renWrite : Go.Shelf.Ren := ⟨fun | 166 => 204 | 240 => 212 | 276 => 224 | n => n, fun | 0 => 0 | 3 => 3 | 4 => 4 | 5 => 5 | 9 => 9 | 20 => 20 | 37 => 151 | 70 => 198 | 72 => 200 | 75 => 202 | 80 => 205 | 164 => 220 | n => n, fun | n => n⟩
theorem layWrite : Go.Proofs.Lays.n166 Tryz.prog renWrite := {
 mixed := by kernel_rfl
 f166 := Tryz.func204.trans (congrArg some (by kernel_rfl))
 f240 := Tryz.func212.trans (congrArg some (by kernel_rfl))
 f276 := Tryz.func224.trans (congrArg some (by kernel_rfl))
 t0 := Tryz.underlying0
 a0 := Tryz.isAgg0
 z0 := Tryz.sizeOf0
 v0 := Tryz.zeroValue0
 t3 := Tryz.underlying3
 a3 := Tryz.isAgg3
 z3 := Tryz.sizeOf3
 v3 := Tryz.zeroValue3
 t4 := Tryz.underlying4
 a4 := Tryz.isAgg4
 z4 := Tryz.sizeOf4
 v4 := Tryz.zeroValue4
 t9 := Tryz.underlying9
 a9 := Tryz.isAgg9
 z9 := Tryz.sizeOf9
 v9 := Tryz.zeroValue9
 t20 := Tryz.underlying20
 a20 := Tryz.isAgg20
 z20 := Tryz.sizeOf20
 v20 := Tryz.zeroValue20
 t37 := Tryz.underlying151
 a37 := Tryz.isAgg151
 z37 := Tryz.sizeOf151
 v37 := Tryz.zeroValue151
 t70 := Tryz.underlying198
 a70 := Tryz.isAgg198
 z70 := Tryz.sizeOf198
 v70 := Tryz.zeroValue198
 t72 := Tryz.underlying200
 a72 := Tryz.isAgg200
 z72 := Tryz.sizeOf200
 v72 := Tryz.zeroValue200
 t75 := Tryz.underlying202
 a75 := Tryz.isAgg202
 z75 := Tryz.sizeOf202
 v75 := Tryz.zeroValue202
 t164 := Tryz.underlying220
 a164 := Tryz.isAgg220
 z164 := Tryz.sizeOf220
 v164 := Tryz.zeroValue220 }
theorem extraWrite : Builder.Extra Tryz.prog renWrite := {
 sizeBuilder := by kernel_rfl
 liesBuilder := by kernel_rfl
 t5 := Tryz.underlying5
 a5 := Tryz.isAgg5
 z5 := Tryz.sizeOf5
 v5 := Tryz.zeroValue5
 infoByte := by kernel_rfl
 cellsByte := by kernel_rfl
 sizeByte := by kernel_rfl
 neB5 := by decide }
end Go.Proofs.YtcaehfkfohianaaGreat.Nt
namespace Go.Proofs.YtcaehfkfohianaaGreat.Nt
open Go.RowKit
theorem bWrite (B b : Nat) (bs : List Value) (s : ByteArray) (w : World) (h : Lib.IsBuilder 200 5 B b bs w) (hlen : bs.length + s.size ≤ 140737488355328) (hBw : B ≤ w.heap.size) :
  Calls Tryz.prog 204 #[.pointer (some ⟨b, 0, none⟩), .string s] w fun e w' => e = .returned (.tuple #[.int .i64 s.size, .nilIface]) ∧ (Lib.BuilderAt 200 5 B b (.pointer (some ⟨b, 0, none⟩)) (bs ++ Lib.strCells s) w' ∧ Below B w w') :=
 Any.Builder_WriteString layWrite extraWrite B b bs s w h hlen hBw
theorem bString (B b : Nat) (l : List UInt8) (w : World) (h : Lib.IsBuilder 200 5 B b (Lib.byteCells l) w) (h0 : l ≠ []) :
  Calls Tryz.prog 205 #[.pointer (some ⟨b, 0, none⟩)] w fun e w' => e = .returned (.string ⟨l.toArray⟩) ∧ Below B w w' :=
 Any.Builder_String layString extraString B b l w h h0
theorem copyCheck_set (b : Nat) (v : Value) (w : World) (hbk : w.heap[b]? = some (.cells #[.pointer (some ⟨b, 0, none⟩), v] 200 (0, 0))) :
  Calls Tryz.prog 212 #[.pointer (some ⟨b, 0, none⟩)] w fun e w' => (∃ x, e = .returned x) ∧ w' = w :=
 Calls.mono (Any.Builder_copyCheck_used (P := Tryz.prog) (ρ := renWrite) { layWrite with } extraWrite.toX72 b w (by rw [cell_at hbk]; rfl)) (fun _ _ h => ⟨⟨_, h.1⟩, h.2⟩)
theorem info5 : (Tryz.prog.info? 5).map (fun i => (i.zero, i.size, i.bytes)) = some (some (.int .u8 0), 1, 1) := by kernel_rfl
set_option maxHeartbeats 2000000 in
set_option maxRecDepth 100000 in
theorem bWriteZ (B b z : Nat) (bs : List Value) (s : ByteArray) (w : World) (v : Value) (hB : B ≤ b) (hbk : w.heap[b]? = some (.cells #[.pointer (some ⟨b, 0, none⟩), v] 200 (0, 0))) (hown : w.ownsRow B 5 1 v bs.length bs) (hne : v.ownBlock ≠ some b)
  (hlen : bs.length + s.size ≤ 140737488355328) (hBw : B ≤ w.heap.size) (hz : z < w.heap.size) (hzb : z ≠ b) (hzr : v.ownBlock ≠ some z) :
  Calls Tryz.prog 204 #[.pointer (some ⟨b, 0, none⟩), .string s] w fun e w' => (∃ x, e = .returned x) ∧ (Lib.BuilderAt 200 5 B b (.pointer (some ⟨b, 0, none⟩)) (bs ++ Lib.strCells s) w' ∧ Below B w w') ∧ w'.heap[z]? = w.heap[z]? := by
 obtain ⟨i0, hi, hz0, hz1, hz2⟩ := info_parts info5;have c1 : w.cell? ⟨b, 1, none⟩ = some v := by rw [cell_at hbk]; rfl
 have hlt : b < w.heap.size := (Array.getElem?_eq_some_iff.1 hbk).1;have H1 := hideIt (copyCheck_set b v w hbk);have HK := hideIt hbk;have HO := hideIt hown;clear hbk hown
 go_enter Tryz.func204, Tryz.ntmps204
 go_wp2_with fail
 refine H1.out.mono ?_;rintro e w1 ⟨⟨x, rfl⟩, rfl⟩;dsimp only
 go_wp2_with (at_builtin; refine Lib.wpList_append_own_string _ rfl _ _ 151 9 rfl B 5 i0 Tryz.underlying151 Tryz.underlying9 hi hz0 hz1 hz2 _ _ _ rfl HO.out s rfl ?c3 ?c4 ?c5 ?_)
 case c3 => unfold maxLen; omega
 case c4 => omega
 case c5 => omega
 intro v' w2 hown' hgrow _;have hb2 : w2.heap[b]? = some (.cells #[.pointer (some ⟨b, 0, none⟩), v] 200 (0, 0)) := by
  rw [hgrow.block b hlt (fun e => hne e.symm)];exact HK.out
 have hzz : w2.heap[z]? = w1.heap[z]? := hgrow.block z hz (fun e => hzr e.symm);have d1 : w2.cell? ⟨b, 1, none⟩ = some v := by rw [cell_at hb2]; rfl
 have f1 : w2.frozen? ⟨b, 1, none⟩ = false := free_at hb2 1;have HX := hideIt (And.intro hown' (And.intro hgrow (And.intro hb2 hzz)));obtain ⟨ao, n', cap, rfl⟩ : ∃ ao n' cap, v' = .slice ao n' cap := by
  rcases hown'.2 with ⟨hv, _⟩ | ⟨g, cap, cur, hv, _⟩
  ·exact ⟨_, _, _, hv⟩
  ·exact ⟨_, _, _, hv⟩
 clear hown' hgrow hb2 hzz;go_wp2
 go_ret2
 obtain ⟨hown', hgrow, hb2, hzz⟩ := HX.out;refine ⟨⟨_, rfl⟩, ⟨?_, ?_⟩, ?_⟩
 ·exact Lib.BuilderAt.put (T := 200) (e := 5) hB hb2 (bs' := bs ++ Lib.strCells s) (by simpa [Lib.strCells_length] using hown') (by decide)
 ·exact ((Below.refl B w1).grown hgrow (by omega) (fun k hk => (HO.out.lt k hk).1)).setCell (p := ⟨b, 1, none⟩) hB _
 ·rw [heap_set_other _ _ _ _ _ hzb]; exact hzz
set_option maxHeartbeats 8000000 in
set_option maxRecDepth 100000 in
theorem entries_any (a : Option Addr) (c : Nat) (l : List EntV) (w : World) (h : EntsAt w a l) (hl : l.length ≤ 16) (hok : ∀ i (h : i < l.length), EntOk l[i]) :
  Calls Tryz.prog 189 #[.slice a l.length c] w fun e w' => e = .returned (.string ⟨(entsL l).toArray⟩) ∧ Below w.heap.size w w' := by
 have HH := hideIt h;have HOK := hideIt hok;clear h hok
 go_enter Tryz.func189, Tryz.ntmps189
 go_wp2_with fail
 refine (num_any l.length _ (by omega)).mono ?_;rintro e w1 ⟨rfl, hb1⟩;dsimp only;have hI := keepI (Lib.fresh_isBuilder 200 5 w) hb1;have hb1' : Below w.heap.size w w1 := ((Below.refl _ _).alloc (Nat.le_refl _) _).trans (hb1.mono (by simp));have hs1 := hb1'.size;have HW := hideIt (bWrite w.heap.size w.heap.size [] ⟨(uintL l.length).toArray⟩ w1 hI (by have := uintL_len l.length; rw [sizeL]; simp; omega) hs1)
 have HB1 := hideIt hb1';clear hI hb1 hb1'
 go_wp2_with fail
 refine HW.out.mono ?_;rintro e w2 ⟨he, hB2, hb2⟩;obtain ⟨xv0, rfl⟩ : ∃ x, e = .returned x := ⟨_, he⟩;clear he;dsimp only;have hB2' : Lib.BuilderAt 200 5 w.heap.size w.heap.size (.pointer (some ⟨w.heap.size, 0, none⟩)) (Lib.byteCells (gathE l 0)) w2 := by
  have e : gathE l 0 = uintL l.length := by simp [gathE]
  rw [e];exact hB2
 have H0 := hideIt (And.intro hB2' (HB1.out.trans hb2));clear hB2 hB2' hb2 HW HB1;go_wp2
 go_loopw [12] (fun v wr => ∃ k : Nat, k ≤ l.length ∧ v = .int .i64 (k : Int) ∧ Hid (Lib.BuilderAt 200 5 w.heap.size w.heap.size (.pointer (some ⟨w.heap.size, 0, none⟩)) (Lib.byteCells (gathE l k)) wr ∧ Below w.heap.size w wr)) (fun v _ => l.length - (intOf v).toNat)
 case atStart => exact ⟨0, by omega, rfl, H0⟩
 case round =>
  clear H0;obtain ⟨k, hk, rfl, HR⟩ := hrel;have hB := HR.out.2;have hsz := hB.size
  by_cases hlt : k < l.length
  ·have hltI : (k : Int) < (l.length : Int) := by omega
   have hk0 : (0 : Int) ≤ (k : Int) := by omega
   obtain ⟨b, off, rfl, hbl, q0, q1, q2⟩ := HH.out k hlt;have c0 := (hB.cell (p := ⟨b, off + k * 3, none⟩) hbl).trans q0;have c1 := (hB.cell (p := ⟨b, off + k * 3 + 1, none⟩) hbl).trans q1;have c2 := (hB.cell (p := ⟨b, off + k * 3 + 2, none⟩) hbl).trans q2;have hst := gathE_step l k hlt;obtain ⟨o1, o2, o3, o4, o5⟩ := HOK.out k hlt;have hgl := gathE_len l k hl;obtain ⟨et, ek, ex, hE⟩ : ∃ et ek ex, l[k] = ⟨et, ek, ex⟩ := ⟨_, _, _, rfl⟩;rw [hE] at c0 c1 c2 hst o1 o2 o3 o4 o5;simp only [entL] at hst;simp only at c0 c1 c2 o1 o2 o3 o4 o5;obtain ⟨t, rfl⟩ := Int.eq_ofNat_of_zero_le o1;obtain ⟨v, rfl⟩ := Int.eq_ofNat_of_zero_le o3;rw [Int.toNat_natCast, Int.toNat_natCast] at hst;clear hE q0 q1 q2 o1 o3;have hblr : b < wr.heap.size := by omega
   have hlt1 := uintL_len t;have hlt2 := uintL_len v;have hlt3 := textL_len ex.data.toList;have hcat1 : ¬ 9223372036854775807 < (uintL t).length + (uintL v).length := by omega
   have hcat2 : ¬ 9223372036854775807 < (uintL t).length + (uintL v).length + (textL ex.data.toList).length := by omega
   obtain ⟨X, hX⟩ : ∃ X, X = wr.alloc (.cells #[.int .i64 (t : Int), .int .i64 (v : Int), .string ex] 55) := ⟨_, rfl⟩;have hXs : X.heap.size = wr.heap.size + 1 := by rw [hX]; simp
   have hXc : X.heap[wr.heap.size]? = some (.cells #[.int .i64 (t : Int), .int .i64 (v : Int), .string ex] 55 (0, 0)) := by rw [hX]; exact heap_alloc_new wr _
   have hXB : Below wr.heap.size wr X := by rw [hX]; exact (Below.refl _ _).alloc (Nat.le_refl _) _
   have HS : ∀ wx, Below X.heap.size X wx → wx.cell? ⟨wr.heap.size, 0, none⟩ = some (.int .i64 (t : Int)) ∧ wx.cell? ⟨wr.heap.size, 1, none⟩ = some (.int .i64 (v : Int)) ∧ wx.cell? ⟨wr.heap.size, 2, none⟩ = some (.string ex) := by
    intro wx hx;have e := (hx.block wr.heap.size (by omega)).trans hXc
    exact ⟨by rw [cell_at e]; rfl, by rw [cell_at e]; rfl, by rw [cell_at e]; rfl⟩
   have HN : Hid (∀ n : Nat, n < 9223372036854775808 → ∀ wx, Below X.heap.size X wx → Calls Tryz.prog 186 #[.int .i64 (n : Int)] wx fun e w' => e = .returned (.string ⟨(uintL n).toArray⟩) ∧ Below X.heap.size X w' ∧ w'.cell? ⟨wr.heap.size, 0, none⟩ = some (.int .i64 (t : Int)) ∧ w'.cell? ⟨wr.heap.size, 1, none⟩ = some (.int .i64 (v : Int)) ∧ w'.cell? ⟨wr.heap.size, 2, none⟩ = some (.string ex)) := by
    intro n hn wx hx;refine (num_any n wx hn).mono ?_;rintro e w' ⟨rfl, hb⟩;have hb2 := hx.trans (hb.mono hx.size)
    exact ⟨rfl, hb2, HS w' hb2⟩
   have HP : Hid (∀ wx, Below X.heap.size X wx → Calls Tryz.prog 190 #[.string ex] wx fun e w' => e = .returned (.string ⟨(textL ex.data.toList).toArray⟩) ∧ Below X.heap.size X w' ∧ w'.cell? ⟨wr.heap.size, 0, none⟩ = some (.int .i64 (t : Int)) ∧ w'.cell? ⟨wr.heap.size, 1, none⟩ = some (.int .i64 (v : Int)) ∧ w'.cell? ⟨wr.heap.size, 2, none⟩ = some (.string ex)) := by
    intro wx hx;refine (piece_any ex wx o5).mono ?_;rintro e w' ⟨rfl, hb⟩;have hb2 := hx.trans (hb.mono hx.size)
    exact ⟨rfl, hb2, HS w' hb2⟩
   have HWR : Hid (∀ wx, Below X.heap.size X wx → Calls Tryz.prog 204 #[.pointer (some ⟨w.heap.size, 0, none⟩), .string (⟨(uintL t).toArray⟩ ++ ⟨(uintL v).toArray⟩ ++ ⟨(textL ex.data.toList).toArray⟩)] wx fun e w' => (∃ x, e = .returned x) ∧ Hid (Lib.BuilderAt 200 5 w.heap.size w.heap.size (.pointer (some ⟨w.heap.size, 0, none⟩)) (Lib.byteCells (gathE l (k + 1))) w' ∧ Below w.heap.size w w') ∧ w'.cell? ⟨wr.heap.size, 0, none⟩ = some (.int .i64 (t : Int)) ∧ w'.cell? ⟨wr.heap.size, 1, none⟩ = some (.int .i64 (v : Int)) ∧ w'.cell? ⟨wr.heap.size, 2, none⟩ = some (.string ex)) := by
    intro wx hx;have hbx : Below wr.heap.size wr wx := hXB.trans (hx.mono (by omega));have hxs := hx.size;have hbs : Below w.heap.size w wx := hB.trans (hbx.mono hsz);have es : (⟨(uintL t).toArray⟩ ++ ⟨(uintL v).toArray⟩ ++ ⟨(textL ex.data.toList).toArray⟩ : ByteArray) = ⟨(uintL t ++ uintL v ++ textL ex.data.toList).toArray⟩ := by
     rw [cat_eq, cat_eq]
    rw [es];have hbr := HR.out.1;have hblt := hbr.lt;obtain ⟨hB0, vv, hk0', hown0, hne0⟩ := hbr;obtain ⟨hB1, v1, hk1', hown1, hne1⟩ := keepB HR.out.1 hbx;have hvv : v1 = vv := by
     have e1 := (hbx.block w.heap.size hblt).trans hk0';rw [hk1'] at e1
     injection e1 with e1
     injection e1 with e1
     have := congrArg (fun a : Array Value => a[1]?) e1
     simpa using this
    subst hvv;refine (bWriteZ w.heap.size w.heap.size wr.heap.size _ ⟨(uintL t ++ uintL v ++ textL ex.data.toList).toArray⟩ wx v1 hB1 hk1' hown1 hne1 (by rw [Lib.byteCells_length, sizeL, List.length_append, List.length_append]; omega) hbs.size (by omega) (by omega) (fun e => by have := (hown0.lt _ e).2; omega)).mono ?_
    rintro e w' ⟨⟨xv, rfl⟩, ⟨hB', hb'⟩, hz'⟩;rw [cells_cat, ← hst] at hB';have hzc := hz'.trans ((hx.block wr.heap.size (by omega)).trans hXc)
    exact ⟨⟨_, rfl⟩, ⟨hB', hbs.trans hb'⟩, by rw [cell_at hzc]; rfl, by rw [cell_at hzc]; rfl, by rw [cell_at hzc]; rfl⟩
   have ht62 : t < 9223372036854775808 := by omega
   have hv62 : v < 9223372036854775808 := by omega
   obtain ⟨x0, x1, x2⟩ := HS X (Below.refl _ _);clear HS hst
   go_upto_region 6 with fail
   rw [← hX];clear hX hXs hXc hXB hblr c0 c1 c2 HOK HH
   go_region_held3 (fun w' => w'.cell? ⟨wr.heap.size, 0, none⟩ = some (.int .i64 (t : Int)) ∧ w'.cell? ⟨wr.heap.size, 1, none⟩ = some (.int .i64 (v : Int)) ∧ w'.cell? ⟨wr.heap.size, 2, none⟩ = some (.string ex)) (go_keep) (first | (go_at_call 186; first | (refine (HN.out t ht62 _ (by first | assumption | exact (Below.refl _ _).drew)).mono ?_; rintro e w5 ⟨rfl, hst, j0, j1, j2⟩) | (refine (HN.out v hv62 _ (by first | assumption | exact (Below.refl _ _).drew)).mono ?_; rintro e w5 ⟨rfl, hst, j0, j1, j2⟩)) | (go_at_call 190; refine (HP.out _ (by first | assumption | exact (Below.refl _ _).drew)).mono ?_; rintro e w5 ⟨rfl, hst, j0, j1, j2⟩) | (go_at_call 204; refine (HWR.out _ (by assumption)).mono ?_; rintro e w5 ⟨⟨xx, rfl⟩, HR2, j0, j1, j2⟩))
   go_wp2
   go_roundw
   case rel => exact ⟨k + 1, by omega, by go_num, HR2⟩
   case measure => simp [intOf]; omega
  ·have hltI : ¬ (k : Int) < (l.length : Int) := by omega
   have e : k = l.length := by omega
   subst e;have HSt := hideIt (bString w.heap.size w.heap.size (entsL l) wr (.inr HR.out.1) (gathE_ne l _))
   go_wp2_with fail
   refine HSt.out.mono ?_;rintro e w3 ⟨rfl, hb3⟩;dsimp only;go_wp2;go_ret
   exact ⟨rfl, HR.out.2.trans hb3⟩
theorem ret_str {a b : ByteArray} (h : a = b) : Ending.returned (.string a) = .returned (.string b) := by rw [h]
theorem cat_two (a b : List UInt8) : (⟨a.toArray⟩ : ByteArray) ++ (⟨b.toArray⟩ : ByteArray) = ⟨(a ++ b).toArray⟩ := cat_eq a ⟨b.toArray⟩
def okI (x : Int) : Prop := 0 ≤ x ∧ x < 9223372036854775808
def uI (x : Int) : List UInt8 := uintL x.toNat
theorem uI_len (x : Int) : (uI x).length ≤ 10 := (uintL_len _).1
def headL (m : MsgV) : List UInt8 := uI m.kind ++ uI m.frm ++ uI m.dst ++ uI m.term
def bodyL (m : MsgV) (l : List EntV) : List UInt8 :=
 if m.kind = 1 then headL m ++ (uI m.pi ++ uI m.pt)
 else if m.kind = 2 then headL m ++ flagL m.ok
 else if m.kind = 3 then headL m ++ (uI m.pi ++ uI m.pt) ++ uI m.commit ++ entsL l
 else if m.kind = 4 then headL m ++ flagL m.ok ++ uI m.mtch
 else if m.kind = 5 then headL m ++ (uI m.si ++ uI m.st) ++ textL m.text.data.toList
 else []
theorem numI_any (x : Int) (w : World) (h : okI x) : Calls Tryz.prog 186 #[.int .i64 x] w fun e w' => e = .returned (.string ⟨(uI x).toArray⟩) ∧ Below w.heap.size w w' := by
 obtain ⟨n, rfl⟩ := Int.eq_ofNat_of_zero_le h.1;have := num_any n w (by have := h.2; omega)
 unfold uI;rw [Int.toNat_natCast];exact this
theorem spotI_any (x y : Int) (w : World) (h : okI x) (h2 : okI y) : Calls Tryz.prog 187 #[.agg #[.int .i64 x, .int .i64 y]] w fun e w' => e = .returned (.string ⟨(uI x ++ uI y).toArray⟩) ∧ Below w.heap.size w w' := by
 obtain ⟨n, rfl⟩ := Int.eq_ofNat_of_zero_le h.1;obtain ⟨k, rfl⟩ := Int.eq_ofNat_of_zero_le h2.1;have := spot_any n k w (by have := h.2; omega) (by have := h2.2; omega)
 unfold uI;rw [Int.toNat_natCast, Int.toNat_natCast];exact this
structure MsgOk (m : MsgV) (l : List EntV) : Prop where
 kind : okI m.kind
 frm : okI m.frm
 dst : okI m.dst
 term : okI m.term
 pi : okI m.pi
 pt : okI m.pt
 commit : okI m.commit
 mtch : okI m.mtch
 si : okI m.si
 st : okI m.st
 text : m.text.size ≤ 60000
 few : l.length ≤ 16
 ents : ∀ i (h : i < l.length), EntOk l[i]
theorem flagL_len (b : Bool) : (flagL b).length ≤ 10 := by unfold flagL; split <;> exact (uintL_len _).1
set_option maxHeartbeats 8000000 in
set_option maxRecDepth 100000 in
theorem textOf_is (m : MsgV) (l : List EntV) (w : World) (hok : MsgOk m l) (hl : EntsAt w m.ea l) (hn : m.en = l.length) :
  Calls Tryz.prog 161 #[.agg (msgC m)] w fun e w' => e = .returned (.string ⟨(bodyL m l).toArray⟩) ∧ Below w.heap.size w w' := by
 obtain ⟨kind, frm, dst, term, pi, pt, ea, en, ec, commit, ok, mtch, si, st, text⟩ := m;simp only at hl hn;subst hn;obtain ⟨k1, k2, k3, k4, k5, k6, k7, k8, k9, k10, k11, k12, k13⟩ := hok;simp only at k1 k2 k3 k4 k5 k6 k7 k8 k9 k10 k11 k12 k13;have le1 := uI_len kind;have le2 := uI_len frm;have le3 := uI_len dst;have le4 := uI_len term;have le5 := uI_len pi;have le6 := uI_len pt;have le7 := uI_len commit;have le8 := uI_len mtch;have le9 := uI_len si;have le10 := uI_len st;have le11 := flagL_len ok;have le12 := textL_len text.data.toList;have le13 := gathE_len l l.length k12;have le14 : (entsL l).length ≤ 1000000 := le13;simp only [msgC];obtain ⟨X, hX⟩ : ∃ X, X = w.alloc (.cells #[.int .i64 kind, .int .i64 frm, .int .i64 dst, .int .i64 term, .int .i64 pi, .int .i64 pt, .slice ea l.length ec, .int .i64 commit, .bool ok, .int .i64 mtch, .int .i64 si, .int .i64 st, .string text] 50) := ⟨_, rfl⟩;have hXs : X.heap.size = w.heap.size + 1 := by rw [hX]; simp
 have hXc : X.heap[w.heap.size]? = some (.cells #[.int .i64 kind, .int .i64 frm, .int .i64 dst, .int .i64 term, .int .i64 pi, .int .i64 pt, .slice ea l.length ec, .int .i64 commit, .bool ok, .int .i64 mtch, .int .i64 si, .int .i64 st, .string text] 50 (0, 0)) := by rw [hX]; exact heap_alloc_new w _
 have hXB : Below w.heap.size w X := by rw [hX]; exact (Below.refl _ _).alloc (Nat.le_refl _) _
 have HS : Hid (∀ wx, Below X.heap.size X wx → (wx.cell? ⟨w.heap.size, 0, none⟩ = some (.int .i64 kind) ∧ wx.cell? ⟨w.heap.size, 1, none⟩ = some (.int .i64 frm) ∧ wx.cell? ⟨w.heap.size, 2, none⟩ = some (.int .i64 dst) ∧ wx.cell? ⟨w.heap.size, 3, none⟩ = some (.int .i64 term)) ∧ (wx.cell? ⟨w.heap.size, 4, none⟩ = some (.int .i64 pi) ∧ wx.cell? ⟨w.heap.size, 5, none⟩ = some (.int .i64 pt) ∧ wx.cell? ⟨w.heap.size, 6, none⟩ = some (.slice ea l.length ec) ∧ wx.cell? ⟨w.heap.size, 7, none⟩ = some (.int .i64 commit)) ∧ (wx.cell? ⟨w.heap.size, 8, none⟩ = some (.bool ok) ∧ wx.cell? ⟨w.heap.size, 9, none⟩ = some (.int .i64 mtch)) ∧ wx.cell? ⟨w.heap.size, 10, none⟩ = some (.int .i64 si) ∧ wx.cell? ⟨w.heap.size, 11, none⟩ = some (.int .i64 st) ∧ wx.cell? ⟨w.heap.size, 12, none⟩ = some (.string text)) := by
  intro wx hx;have e := (hx.block w.heap.size (by omega)).trans hXc;refine ⟨⟨?_, ?_, ?_, ?_⟩, ⟨?_, ?_, ?_, ?_⟩, ⟨?_, ?_⟩, ?_, ?_, ?_⟩ <;> (rw [cell_at e]; rfl)
 have HF : Hid (∀ wx, Below X.heap.size X wx → Below w.heap.size w wx) := fun wx h => hXB.trans (h.mono (by omega))
 have HN : Hid (∀ x, okI x → ∀ wx, Below X.heap.size X wx → Calls Tryz.prog 186 #[.int .i64 x] wx fun e w' => e = .returned (.string ⟨(uI x).toArray⟩) ∧ Below X.heap.size X w' ∧ (w'.cell? ⟨w.heap.size, 0, none⟩ = some (.int .i64 kind) ∧ w'.cell? ⟨w.heap.size, 1, none⟩ = some (.int .i64 frm) ∧ w'.cell? ⟨w.heap.size, 2, none⟩ = some (.int .i64 dst) ∧ w'.cell? ⟨w.heap.size, 3, none⟩ = some (.int .i64 term))) := by
  intro x hx wx hw;refine (numI_any x wx hx).mono ?_;rintro e w' ⟨rfl, hb⟩;have hb2 := hw.trans (hb.mono hw.size)
  exact ⟨rfl, hb2, (HS.out w' hb2).1⟩
 have HSP : Hid (∀ x y, okI x → okI y → ∀ wx, Below X.heap.size X wx → Calls Tryz.prog 187 #[.agg #[.int .i64 x, .int .i64 y]] wx fun e w' => e = .returned (.string ⟨(uI x ++ uI y).toArray⟩) ∧ Below X.heap.size X w') := by
  intro x y hx hy wx hw;refine (spotI_any x y wx hx hy).mono ?_;rintro e w' ⟨rfl, hb⟩
  exact ⟨rfl, hw.trans (hb.mono hw.size)⟩
 have HFL : Hid (∀ wx, Below X.heap.size X wx → Calls Tryz.prog 188 #[.bool ok] wx fun e w' => e = .returned (.string ⟨(flagL ok).toArray⟩) ∧ Below X.heap.size X w') := by
  intro wx hw;refine (flag_any ok wx).mono ?_;rintro e w' ⟨rfl, hb⟩
  exact ⟨rfl, hw.trans (hb.mono hw.size)⟩
 have HPC : Hid (∀ wx, Below X.heap.size X wx → Calls Tryz.prog 190 #[.string text] wx fun e w' => e = .returned (.string ⟨(textL text.data.toList).toArray⟩) ∧ Below X.heap.size X w') := by
  intro wx hw;refine (piece_any text wx k11).mono ?_;rintro e w' ⟨rfl, hb⟩
  exact ⟨rfl, hw.trans (hb.mono hw.size)⟩
 have HEN : Hid (∀ wx, Below X.heap.size X wx → Calls Tryz.prog 189 #[.slice ea l.length ec] wx fun e w' => e = .returned (.string ⟨(entsL l).toArray⟩) ∧ Below X.heap.size X w') := by
  intro wx hw;refine (entries_any ea ec l wx (hl.below (hXB.trans (hw.mono (by omega))) (Nat.le_refl _)) k12 k13).mono ?_;rintro e w' ⟨rfl, hb⟩
  exact ⟨rfl, hw.trans (hb.mono hw.size)⟩
 obtain ⟨R, hR⟩ : ∃ R, R = bodyL ⟨kind, frm, dst, term, pi, pt, ea, l.length, ec, commit, ok, mtch, si, st, text⟩ l := ⟨_, rfl⟩;rw [← hR];have HR := hideIt hR;have hcat1 : ¬ 9223372036854775807 < (uI kind).length + (uI frm).length := by omega
 have hcat2 : ¬ 9223372036854775807 < (uI kind).length + (uI frm).length + (uI dst).length := by omega
 have hcat3 : ¬ 9223372036854775807 < (uI kind).length + (uI frm).length + (uI dst).length + (uI term).length := by omega
 have H1 := hideIt (HN.out kind k1);have H2 := hideIt (HN.out frm k2);have H3 := hideIt (HN.out dst k3);have H4 := hideIt (HN.out term k4);clear hR hXB hXs hl k11 k12 k13
 go_enter Tryz.func161, Tryz.ntmps161
 go_upto_region 1 with fail
 rw [← hX];clear hX hXc;obtain ⟨⟨x0, x1, x2, x3⟩, _⟩ := HS.out X (Below.refl _ _)
 go_cut [3] from 4 (fun v wx => v = .string ⟨(headL ⟨kind, frm, dst, term, pi, pt, ea, l.length, ec, commit, ok, mtch, si, st, text⟩).toArray⟩ ∧ Hid (Below X.heap.size X wx))
 case first =>
  go_region_held3 (fun w' => w'.cell? ⟨w.heap.size, 0, none⟩ = some (.int .i64 kind) ∧ w'.cell? ⟨w.heap.size, 1, none⟩ = some (.int .i64 frm) ∧ w'.cell? ⟨w.heap.size, 2, none⟩ = some (.int .i64 dst) ∧ w'.cell? ⟨w.heap.size, 3, none⟩ = some (.int .i64 term)) (go_keep) (first | (go_at_call 186; first | (refine (H1.out _ (by first | assumption | exact (Below.refl _ _).drew)).mono ?_; rintro e w5 ⟨rfl, hst, j0, j1, j2, j3⟩) | (refine (H2.out _ (by first | assumption | exact (Below.refl _ _).drew)).mono ?_; rintro e w5 ⟨rfl, hst, j0, j1, j2, j3⟩) | (refine (H3.out _ (by first | assumption | exact (Below.refl _ _).drew)).mono ?_; rintro e w5 ⟨rfl, hst, j0, j1, j2, j3⟩) | (refine (H4.out _ (by first | assumption | exact (Below.refl _ _).drew)).mono ?_; rintro e w5 ⟨rfl, hst, j0, j1, j2, j3⟩)))
  all_goals go_wp2_with fail
  all_goals go_meet
  all_goals exact ⟨by rw [cat_eq, cat_eq, cat_eq]; simp [headL], hideIt hst⟩
 case rest =>
 clear x0 x1 x2 x3 H1 H2 H3 H4 hcat1 hcat2 hcat3;obtain ⟨rfl, HX⟩ := hcut;have hhl : (headL ⟨kind, frm, dst, term, pi, pt, ea, l.length, ec, commit, ok, mtch, si, st, text⟩).length ≤ 40 := by
  simp only [headL, List.length_append]; omega
 obtain ⟨D, hD⟩ : ∃ D, headL ⟨kind, frm, dst, term, pi, pt, ea, l.length, ec, commit, ok, mtch, si, st, text⟩ = D := ⟨_, rfl⟩;rw [hD] at hhl ⊢;have HD := hideIt hD;clear hD;obtain ⟨⟨x0, x1, x2, x3⟩, ⟨x4, x5, x6, x7⟩, ⟨x8, x9⟩, x10, x11, x12⟩ := HS.out wc HX.out;clear x1 x2 x3;have hXd := HX.out.drew
 by_cases hk1 : kind = 1
 ·subst hk1;have hR2 := HR.out;simp only [bodyL, if_true] at hR2;rw [HD.out] at hR2;have HR2 := hideIt hR2;clear hR2;have H1 := hideIt (HSP.out pi pt k5 k6);have hcat : ¬ 9223372036854775807 < D.length + ((uI pi).length + (uI pt).length) := by omega
  go_wp2_with fail
  refine (H1.out _ HX.out).mono ?_;rintro e w2 ⟨rfl, hb2⟩;dsimp only;have HB2 := hideIt hb2;clear hb2;go_wp2;go_ret
  exact ⟨ret_str (by rw [HR2.out]; exact cat_two _ _), HF.out _ HB2.out⟩
 have hk1b : (kind == 1) = false := beq_eq_false_iff_ne.2 hk1
 by_cases hk2 : kind = 2
 ·subst hk2;have hR2 := HR.out;simp only [bodyL] at hR2;rw [if_neg (by decide), if_pos trivial, HD.out] at hR2;have HR2 := hideIt hR2;clear hR2;have hcat : ¬ 9223372036854775807 < D.length + (flagL ok).length := by omega
  go_wp2_with fail
  refine (HFL.out _ HX.out).mono ?_;rintro e w2 ⟨rfl, hb2⟩;dsimp only;have HB2 := hideIt hb2;clear hb2;go_wp2;go_ret
  exact ⟨ret_str (by rw [HR2.out]; exact cat_two _ _), HF.out _ HB2.out⟩
 have hk2b : (kind == 2) = false := beq_eq_false_iff_ne.2 hk2
 by_cases hk3 : kind = 3
 ·subst hk3;have hR2 := HR.out;simp only [bodyL] at hR2;rw [if_neg (by decide), if_neg (by decide), if_pos trivial, HD.out] at hR2;have HR2 := hideIt hR2;clear hR2;have H1 : Hid (∀ wx, Below X.heap.size X wx → Calls Tryz.prog 187 #[.agg #[.int .i64 pi, .int .i64 pt]] wx fun e w' => e = .returned (.string ⟨(uI pi ++ uI pt).toArray⟩) ∧ Below X.heap.size X w' ∧ w'.cell? ⟨w.heap.size, 4, none⟩ = some (.int .i64 pi) ∧ w'.cell? ⟨w.heap.size, 5, none⟩ = some (.int .i64 pt) ∧ w'.cell? ⟨w.heap.size, 6, none⟩ = some (.slice ea l.length ec) ∧ w'.cell? ⟨w.heap.size, 7, none⟩ = some (.int .i64 commit)) := fun wx hw => (HSP.out pi pt k5 k6 wx hw).mono (fun _ _ h => ⟨h.1, h.2, (HS.out _ h.2).2.1⟩)
  have H2 : Hid (∀ wx, Below X.heap.size X wx → Calls Tryz.prog 186 #[.int .i64 commit] wx fun e w' => e = .returned (.string ⟨(uI commit).toArray⟩) ∧ Below X.heap.size X w' ∧ w'.cell? ⟨w.heap.size, 4, none⟩ = some (.int .i64 pi) ∧ w'.cell? ⟨w.heap.size, 5, none⟩ = some (.int .i64 pt) ∧ w'.cell? ⟨w.heap.size, 6, none⟩ = some (.slice ea l.length ec) ∧ w'.cell? ⟨w.heap.size, 7, none⟩ = some (.int .i64 commit)) := fun wx hw => (HN.out commit k7 wx hw).mono (fun _ _ h => ⟨h.1, h.2.1, (HS.out _ h.2.1).2.1⟩)
  have H3 : Hid (∀ wx, Below X.heap.size X wx → Calls Tryz.prog 189 #[.slice ea l.length ec] wx fun e w' => e = .returned (.string ⟨(entsL l).toArray⟩) ∧ Below X.heap.size X w' ∧ w'.cell? ⟨w.heap.size, 4, none⟩ = some (.int .i64 pi) ∧ w'.cell? ⟨w.heap.size, 5, none⟩ = some (.int .i64 pt) ∧ w'.cell? ⟨w.heap.size, 6, none⟩ = some (.slice ea l.length ec) ∧ w'.cell? ⟨w.heap.size, 7, none⟩ = some (.int .i64 commit)) := fun wx hw => (HEN.out wx hw).mono (fun _ _ h => ⟨h.1, h.2, (HS.out _ h.2).2.1⟩)
  have hcat1 : ¬ 9223372036854775807 < D.length + ((uI pi).length + (uI pt).length) := by omega
  have hcat2 : ¬ 9223372036854775807 < D.length + ((uI pi).length + (uI pt).length) + (uI commit).length := by omega
  have hcat3 : ¬ 9223372036854775807 < D.length + ((uI pi).length + (uI pt).length) + (uI commit).length + (entsL l).length := by omega
  clear HSP HN HEN HFL HPC x8 x9 x10 x11 x12
  go_upto_region 8 with fail
  go_cut [2] from 37 (fun v wx => v = .string ⟨(D ++ (uI pi ++ uI pt) ++ uI commit ++ entsL l).toArray⟩ ∧ Hid (Below X.heap.size X wx))
  case first =>
   go_region_held3 (fun w' => w'.cell? ⟨w.heap.size, 4, none⟩ = some (.int .i64 pi) ∧ w'.cell? ⟨w.heap.size, 5, none⟩ = some (.int .i64 pt) ∧ w'.cell? ⟨w.heap.size, 6, none⟩ = some (.slice ea l.length ec) ∧ w'.cell? ⟨w.heap.size, 7, none⟩ = some (.int .i64 commit)) (go_keep) (first | (go_at_call 187; refine (H1.out _ (by assumption)).mono ?_; rintro e w5 ⟨rfl, hst, j0, j1, j2, j3⟩) | (go_at_call 186; refine (H2.out _ (by assumption)).mono ?_; rintro e w5 ⟨rfl, hst, j0, j1, j2, j3⟩) | (go_at_call 189; refine (H3.out _ (by assumption)).mono ?_; rintro e w5 ⟨rfl, hst, j0, j1, j2, j3⟩))
   all_goals go_wp2_with fail
   all_goals go_meet
   all_goals exact ⟨by rw [cat_two, cat_two, cat_two], hideIt hst⟩
  case rest =>
  obtain ⟨rfl, HY⟩ := hcut;go_wp2;go_ret
  exact ⟨ret_str (by rw [HR2.out]), HF.out _ HY.out⟩
 have hk3b : (kind == 3) = false := beq_eq_false_iff_ne.2 hk3
 by_cases hk4 : kind = 4
 ·subst hk4;have hR2 := HR.out;simp only [bodyL] at hR2;rw [if_neg (by decide), if_neg (by decide), if_neg (by decide), if_pos trivial, HD.out] at hR2;have HR2 := hideIt hR2;clear hR2;have H1 : Hid (∀ wx, Below X.heap.size X wx → Calls Tryz.prog 188 #[.bool ok] wx fun e w' => e = .returned (.string ⟨(flagL ok).toArray⟩) ∧ Below X.heap.size X w' ∧ w'.cell? ⟨w.heap.size, 8, none⟩ = some (.bool ok) ∧ w'.cell? ⟨w.heap.size, 9, none⟩ = some (.int .i64 mtch)) := fun wx hw => (HFL.out wx hw).mono (fun _ _ h => ⟨h.1, h.2, (HS.out _ h.2).2.2.1⟩)
  have H2 : Hid (∀ wx, Below X.heap.size X wx → Calls Tryz.prog 186 #[.int .i64 mtch] wx fun e w' => e = .returned (.string ⟨(uI mtch).toArray⟩) ∧ Below X.heap.size X w' ∧ w'.cell? ⟨w.heap.size, 8, none⟩ = some (.bool ok) ∧ w'.cell? ⟨w.heap.size, 9, none⟩ = some (.int .i64 mtch)) := fun wx hw => (HN.out mtch k8 wx hw).mono (fun _ _ h => ⟨h.1, h.2.1, (HS.out _ h.2.1).2.2.1⟩)
  have hcat1 : ¬ 9223372036854775807 < D.length + (flagL ok).length := by omega
  have hcat2 : ¬ 9223372036854775807 < D.length + (flagL ok).length + (uI mtch).length := by omega
  clear HSP HN HEN HFL HPC x4 x5 x6 x7 x10 x11 x12
  go_upto_region 10 with fail
  go_cut [2] from 52 (fun v wx => v = .string ⟨(D ++ flagL ok ++ uI mtch).toArray⟩ ∧ Hid (Below X.heap.size X wx))
  case first =>
   go_region_held3 (fun w' => w'.cell? ⟨w.heap.size, 8, none⟩ = some (.bool ok) ∧ w'.cell? ⟨w.heap.size, 9, none⟩ = some (.int .i64 mtch)) (go_keep) (first | (go_at_call 188; refine (H1.out _ (by assumption)).mono ?_; rintro e w5 ⟨rfl, hst, j0, j1⟩) | (go_at_call 186; refine (H2.out _ (by assumption)).mono ?_; rintro e w5 ⟨rfl, hst, j0, j1⟩))
   all_goals go_wp2_with fail
   all_goals go_meet
   all_goals exact ⟨by rw [cat_two, cat_two], hideIt hst⟩
  case rest =>
  obtain ⟨rfl, HY⟩ := hcut;go_wp2;go_ret
  exact ⟨ret_str (by rw [HR2.out]), HF.out _ HY.out⟩
 have hk4b : (kind == 4) = false := beq_eq_false_iff_ne.2 hk4
 by_cases hk5 : kind = 5
 ·subst hk5;have hR2 := HR.out;simp only [bodyL] at hR2;rw [if_neg (by decide), if_neg (by decide), if_neg (by decide), if_neg (by decide), if_pos trivial, HD.out] at hR2;have HR2 := hideIt hR2;clear hR2;have H1 : Hid (∀ wx, Below X.heap.size X wx → Calls Tryz.prog 187 #[.agg #[.int .i64 si, .int .i64 st]] wx fun e w' => e = .returned (.string ⟨(uI si ++ uI st).toArray⟩) ∧ Below X.heap.size X w' ∧ w'.cell? ⟨w.heap.size, 10, none⟩ = some (.int .i64 si) ∧ w'.cell? ⟨w.heap.size, 11, none⟩ = some (.int .i64 st) ∧ w'.cell? ⟨w.heap.size, 12, none⟩ = some (.string text)) := fun wx hw => (HSP.out si st k9 k10 wx hw).mono (fun _ _ h => ⟨h.1, h.2, (HS.out _ h.2).2.2.2⟩)
  have H2 : Hid (∀ wx, Below X.heap.size X wx → Calls Tryz.prog 190 #[.string text] wx fun e w' => e = .returned (.string ⟨(textL text.data.toList).toArray⟩) ∧ Below X.heap.size X w' ∧ w'.cell? ⟨w.heap.size, 10, none⟩ = some (.int .i64 si) ∧ w'.cell? ⟨w.heap.size, 11, none⟩ = some (.int .i64 st) ∧ w'.cell? ⟨w.heap.size, 12, none⟩ = some (.string text)) := fun wx hw => (HPC.out wx hw).mono (fun _ _ h => ⟨h.1, h.2, (HS.out _ h.2).2.2.2⟩)
  have hcat1 : ¬ 9223372036854775807 < D.length + ((uI si).length + (uI st).length) := by omega
  have hcat2 : ¬ 9223372036854775807 < D.length + ((uI si).length + (uI st).length) + (textL text.data.toList).length := by omega
  clear HSP HN HEN HFL HPC x4 x5 x6 x7 x8 x9
  go_upto_region 12 with fail
  go_cut [2] from 63 (fun v wx => v = .string ⟨(D ++ (uI si ++ uI st) ++ textL text.data.toList).toArray⟩ ∧ Hid (Below X.heap.size X wx))
  case first =>
   go_region_held3 (fun w' => w'.cell? ⟨w.heap.size, 10, none⟩ = some (.int .i64 si) ∧ w'.cell? ⟨w.heap.size, 11, none⟩ = some (.int .i64 st) ∧ w'.cell? ⟨w.heap.size, 12, none⟩ = some (.string text)) (go_keep) (first | (go_at_call 187; refine (H1.out _ (by assumption)).mono ?_; rintro e w5 ⟨rfl, hst, j0, j1, j2⟩) | (go_at_call 190; refine (H2.out _ (by assumption)).mono ?_; rintro e w5 ⟨rfl, hst, j0, j1, j2⟩))
   all_goals go_wp2_with fail
   all_goals go_meet
   all_goals exact ⟨by rw [cat_two, cat_two], hideIt hst⟩
  case rest =>
  obtain ⟨rfl, HY⟩ := hcut;go_wp2;go_ret
  exact ⟨ret_str (by rw [HR2.out]), HF.out _ HY.out⟩
 have hk5b : (kind == 5) = false := beq_eq_false_iff_ne.2 hk5;have hR2 := HR.out;simp only [bodyL] at hR2;rw [if_neg hk1, if_neg hk2, if_neg hk3, if_neg hk4, if_neg hk5] at hR2;have HR2 := hideIt hR2;clear hR2 hk1 hk2 hk3 hk4 hk5;go_wp2;go_ret
 exact ⟨by rw [HR2.out]; rfl, HF.out _ HX.out⟩
theorem wiB_iff (x lo hi : Int) : wiB x lo hi = true ↔ lo ≤ x ∧ x ≤ hi := by simp [wiB]
theorem okI_of {x lo hi : Int} (h : wiB x lo hi = true) (hl : 0 ≤ lo) (hh : hi < 9223372036854775808) : okI x := by
 rw [wiB_iff] at h
 exact ⟨by omega, by omega⟩
theorem okI_zero : okI 0 := ⟨by decide, by decide⟩
theorem eqF_true {a b : FldV} (h : eqF a b = true) : a.pi = b.pi ∧ a.pt = b.pt ∧ a.en = b.en ∧ a.commit = b.commit ∧ a.ok = b.ok ∧ a.mtch = b.mtch ∧ a.si = b.si ∧ a.st = b.st ∧ a.text.toList = b.text.toList := by
 simp only [eqF, Bool.and_eq_true, beq_iff_eq] at h;obtain ⟨⟨⟨⟨⟨⟨⟨⟨h1, h2⟩, h3⟩, h4⟩, h5⟩, h6⟩, h7⟩, h8⟩, h9⟩ := h
 exact ⟨h1, h2, h3, h4, h5, h6, h7, h8, h9⟩
theorem mkB_true {i t : Int} (h : mkB i t = true) : okI i ∧ okI t := by
 simp only [mkB, Bool.and_eq_true] at h
 exact ⟨okI_of h.1.1 (by decide) (by decide), okI_of h.1.2 (by decide) (by decide)⟩
theorem size_nil {x : ByteArray} (h : x.toList = (⟨#[]⟩ : ByteArray).toList) : x.size = 0 := by
 rw [ByteArray.toList_eq, ByteArray.toList_eq] at h;have := congrArg List.length h
 simpa using this
theorem entB_true {e : EntV} (h : entB e = true) : EntOk e ∧ e.text.size ≤ 4000 := by
 simp only [entB, Bool.and_eq_true, decide_eq_true_eq] at h;have h1 := okI_of h.1.1 (by decide) (by decide);have h2 := okI_of h.1.2 (by decide) (by decide)
 exact ⟨⟨h1.1, h1.2, h2.1, h2.2, by omega⟩, h.2⟩
theorem entL_small {e : EntV} (h : e.text.size ≤ 4000) : (entL e).length ≤ 4030 := by
 have h1 := uintL_len e.term.toNat;have h2 := uintL_len e.kind.toNat;have h3 := uintL_len e.text.data.toList.length;have h4 : e.text.data.toList.length = e.text.size := by simp
 unfold entL textL;rw [if_pos (by omega)];simp only [List.length_append];omega
theorem flatE_small : ∀ (ls : List EntV), (∀ e ∈ ls, e.text.size ≤ 4000) → ((ls.map entL).flatten).length ≤ 4030 * ls.length
 | [], _ => by simp
 | e :: ls, h => by
  have h1 := entL_small (h e (by simp));have h2 := flatE_small ls (fun x hx => h x (by simp [hx]))
  simp at *
  omega
theorem entsL_small (l : List EntV) (hl : l.length ≤ 16) (h : ∀ e ∈ l, e.text.size ≤ 4000) : (entsL l).length ≤ 64490 := by
 have h1 := uintL_len l.length;have h2 := flatE_small l h;have h3 : 4030 * l.length ≤ 4030 * 16 := Nat.mul_le_mul_left _ hl;unfold entsL gathE;rw [List.take_of_length_le (Nat.le_refl _), List.length_append];omega
theorem headL_len (m : MsgV) : (headL m).length ≤ 40 := by
 have := uI_len m.kind;have := uI_len m.frm;have := uI_len m.dst;have := uI_len m.term;simp only [headL, List.length_append];omega
theorem mayB_ok (m : MsgV) (l : List EntV) (hn : m.en = l.length) (h : mayB m l = true) : MsgOk m l ∧ (bodyL m l).length ≤ 70000 := by
 obtain ⟨kind, frm, dst, term, pi, pt, ea, en, ec, commit, ok, mtch, si, st, text⟩ := m;simp only at hn;subst hn;simp only [mayB, Bool.and_eq_true, headB] at h;obtain ⟨⟨⟨⟨h1, h2⟩, _⟩, h4⟩, hb⟩ := h;have f1 := okI_of h1 (by decide) (by decide);have f2 := okI_of h2 (by decide) (by decide);have f4 := okI_of h4 (by decide) (by decide);have hh := headL_len ⟨kind, frm, dst, term, pi, pt, ea, l.length, ec, commit, ok, mtch, si, st, text⟩;have le5 := uI_len pi;have le6 := uI_len pt;have le7 := uI_len commit;have le8 := uI_len mtch;have le9 := uI_len si;have le10 := uI_len st;have le11 := flagL_len ok;simp only [bodyB, fOf] at hb;have none_of : ∀ n : Int, n = 0 → (l.length : Int) = n → l = [] := fun n h1 h2 => List.eq_nil_of_length_eq_zero (by omega)
 by_cases hk1 : kind = 1
 ·rw [if_pos hk1, Bool.and_eq_true] at hb;obtain ⟨e1, e2, e3, e4, e5, e6, e7, e8, e9⟩ := eqF_true hb.1;obtain ⟨g1, g2⟩ := mkB_true hb.2;simp only at e1 e2 e3 e4 e5 e6 e7 e8 e9;have hl := none_of 0 rfl e3;subst hl e4 e6 e7 e8;refine ⟨⟨by show okI kind; exact ⟨by omega, by omega⟩, f1, f2, f4, g1, g2, okI_zero, okI_zero, okI_zero, okI_zero, by have := size_nil e9; show text.size ≤ _; omega, by simp, fun i hi => by cases hi⟩, ?_⟩
  unfold bodyL;rw [if_pos hk1];simp only [List.length_append];omega
 by_cases hk2 : kind = 2
 ·rw [if_neg hk1, if_pos hk2] at hb;obtain ⟨e1, e2, e3, e4, e5, e6, e7, e8, e9⟩ := eqF_true hb;simp only at e1 e2 e3 e4 e5 e6 e7 e8 e9;have hl := none_of 0 rfl e3;subst hl e1 e2 e4 e6 e7 e8;refine ⟨⟨by show okI kind; exact ⟨by omega, by omega⟩, f1, f2, f4, okI_zero, okI_zero, okI_zero, okI_zero, okI_zero, okI_zero, by have := size_nil e9; show text.size ≤ _; omega, by simp, fun i hi => by cases hi⟩, ?_⟩
  unfold bodyL;rw [if_neg hk1, if_pos hk2];simp only [List.length_append];omega
 by_cases hk3 : kind = 3
 ·rw [if_neg hk1, if_neg hk2, if_pos hk3, Bool.and_eq_true, Bool.and_eq_true, Bool.and_eq_true] at hb;obtain ⟨⟨⟨hb1, hb2⟩, hb3⟩, hb4⟩ := hb;obtain ⟨e1, e2, e3, e4, e5, e6, e7, e8, e9⟩ := eqF_true hb1;obtain ⟨g1, g2⟩ := mkB_true hb2;simp only at e1 e2 e3 e4 e5 e6 e7 e8 e9;subst e6 e7 e8;simp only [entsB, Bool.and_eq_true, decide_eq_true_eq, List.all_eq_true] at hb3;have hes := entsL_small l hb3.1 (fun e he => (entB_true (hb3.2 e he)).2);refine ⟨⟨by show okI kind; exact ⟨by omega, by omega⟩, f1, f2, f4, g1, g2, okI_of hb4 (by decide) (by decide), okI_zero, okI_zero, okI_zero, by have := size_nil e9; show text.size ≤ _; omega, hb3.1, fun i hi => (entB_true (hb3.2 _ (List.getElem_mem hi))).1⟩, ?_⟩
  unfold bodyL;rw [if_neg hk1, if_neg hk2, if_pos hk3];simp only [List.length_append];omega
 by_cases hk4 : kind = 4
 ·rw [if_neg hk1, if_neg hk2, if_neg hk3, if_pos hk4, Bool.and_eq_true] at hb;obtain ⟨e1, e2, e3, e4, e5, e6, e7, e8, e9⟩ := eqF_true hb.1;simp only at e1 e2 e3 e4 e5 e6 e7 e8 e9;have hl := none_of 0 rfl e3;subst hl e1 e2 e4 e7 e8;refine ⟨⟨by show okI kind; exact ⟨by omega, by omega⟩, f1, f2, f4, okI_zero, okI_zero, okI_zero, okI_of hb.2 (by decide) (by decide), okI_zero, okI_zero, by have := size_nil e9; show text.size ≤ _; omega, by simp, fun i hi => by cases hi⟩, ?_⟩
  unfold bodyL;rw [if_neg hk1, if_neg hk2, if_neg hk3, if_pos hk4];simp only [List.length_append];omega
 by_cases hk5 : kind = 5
 ·rw [if_neg hk1, if_neg hk2, if_neg hk3, if_neg hk4, if_pos hk5, Bool.and_eq_true] at hb;obtain ⟨e1, e2, e3, e4, e5, e6, e7, e8, e9⟩ := eqF_true hb.1;simp only at e1 e2 e3 e4 e5 e6 e7 e8 e9;have hl := none_of 0 rfl e3;subst hl e1 e2 e4 e6;have hs := hb.2;simp only [snB, Bool.and_eq_true, decide_eq_true_eq] at hs;obtain ⟨g1, g2⟩ := mkB_true hs.1.1;have h50 : text.size ≤ 50000 := hs.2;have htl : (textL text.data.toList).length ≤ 50010 := by
   have h3 := uintL_len text.data.toList.length;have h4 : text.data.toList.length = text.size := by simp
   unfold textL;rw [if_pos (by omega)];simp only [List.length_append];omega
  refine ⟨⟨by show okI kind; exact ⟨by omega, by omega⟩, f1, f2, f4, okI_zero, okI_zero, okI_zero, okI_zero, g1, g2, by show text.size ≤ _; omega, by simp, fun i hi => by cases hi⟩, ?_⟩
  unfold bodyL;rw [if_neg hk1, if_neg hk2, if_neg hk3, if_neg hk4, if_pos hk5];simp only [List.length_append];omega
 rw [if_neg hk1, if_neg hk2, if_neg hk3, if_neg hk4, if_neg hk5] at hb;cases hb
def encL (m : MsgV) (l : List EntV) : List UInt8 := if mayB m l = true then frameL (bodyL m l) else []
def encE (m : MsgV) (l : List EntV) : Nat := if mayB m l = true then 0 else 52
set_option maxHeartbeats 2000000 in
theorem encode_is (m : MsgV) (l : List EntV) (w : World) (hl : EntsAt w m.ea l) (hn : m.en = l.length) :
  Calls Tryz.prog 139 #[.agg (msgC m)] w fun e w' => e = .returned (.tuple #[.string ⟨(encL m l).toArray⟩, .int .i64 (encE m l : Int)]) ∧ Below w.heap.size w w' := by
 unfold encL encE;have hXB : Below w.heap.size w (w.alloc (.cells (msgC m) 50)) := (Below.refl _ _).alloc (Nat.le_refl _) _;have HM := hideIt (mayBe_is m l (w.alloc (.cells (msgC m) 50)) (hl.below hXB (Nat.le_refl _)) hn);have HXB := hideIt hXB;cases hmay : mayB m l
 ·rw [hmay] at HM;clear hl hn hmay hXB;obtain ⟨kind, frm, dst, term, pi, pt, ea, en, ec, commit, ok, mtch, si, st, text⟩ := m;simp only [msgC] at HM HXB ⊢
  go_enter Tryz.func139, Tryz.ntmps139
  go_wp2_with fail
  refine HM.out.mono ?_;rintro e w1 ⟨rfl, hb1⟩;dsimp only;have HB1 := hideIt (HXB.out.trans (hb1.mono (by simp)));clear hb1;go_wp2
  go_ret2
  exact ⟨rfl, HB1.out⟩
 ·rw [hmay] at HM;obtain ⟨hok, hlen⟩ := mayB_ok m l hn hmay;have HT : Hid (∀ wx, Below w.heap.size w wx → Calls Tryz.prog 161 #[.agg (msgC m)] wx fun e w' => e = .returned (.string ⟨(bodyL m l).toArray⟩) ∧ Below wx.heap.size wx w') := fun wx hx => textOf_is m l wx hok (hl.below hx (Nat.le_refl _)) hn
  have HFR := hideIt (fun W => frame_in ⟨(bodyL m l).toArray⟩ W (by rw [sizeL]; exact hlen))
  clear hl hn hmay hXB hok hlen;generalize bodyL m l = bl at *;obtain ⟨kind, frm, dst, term, pi, pt, ea, en, ec, commit, ok, mtch, si, st, text⟩ := m;simp only [msgC] at HM HXB HT ⊢;have hbs : w.heap.size < (w.alloc (.cells #[.int .i64 kind, .int .i64 frm, .int .i64 dst, .int .i64 term, .int .i64 pi, .int .i64 pt, .slice ea en ec, .int .i64 commit, .bool ok, .int .i64 mtch, .int .i64 si, .int .i64 st, .string text] 50)).heap.size := by simp
  go_enter Tryz.func139, Tryz.ntmps139
  go_wp2_with fail
  refine HM.out.mono ?_;rintro e w1 ⟨rfl, hb1⟩;dsimp only;have HB1 := hideIt (HXB.out.trans (hb1.mono (by simp)));have hz1 : w1.heap[w.heap.size]? = some (.cells #[.int .i64 kind, .int .i64 frm, .int .i64 dst, .int .i64 term, .int .i64 pi, .int .i64 pt, .slice ea en ec, .int .i64 commit, .bool ok, .int .i64 mtch, .int .i64 si, .int .i64 st, .string text] 50 (0, 0)) := (hb1.block w.heap.size hbs).trans (heap_alloc_new w _);have d0 : w1.cell? ⟨w.heap.size, 0, none⟩ = some (.int .i64 kind) := by rw [cell_at hz1]; rfl
  have d1 : w1.cell? ⟨w.heap.size, 1, none⟩ = some (.int .i64 frm) := by rw [cell_at hz1]; rfl
  have d2 : w1.cell? ⟨w.heap.size, 2, none⟩ = some (.int .i64 dst) := by rw [cell_at hz1]; rfl
  have d3 : w1.cell? ⟨w.heap.size, 3, none⟩ = some (.int .i64 term) := by rw [cell_at hz1]; rfl
  have d4 : w1.cell? ⟨w.heap.size, 4, none⟩ = some (.int .i64 pi) := by rw [cell_at hz1]; rfl
  have d5 : w1.cell? ⟨w.heap.size, 5, none⟩ = some (.int .i64 pt) := by rw [cell_at hz1]; rfl
  have d6 : w1.cell? ⟨w.heap.size, 6, none⟩ = some (.slice ea en ec) := by rw [cell_at hz1]; rfl
  have d7 : w1.cell? ⟨w.heap.size, 7, none⟩ = some (.int .i64 commit) := by rw [cell_at hz1]; rfl
  have d8 : w1.cell? ⟨w.heap.size, 8, none⟩ = some (.bool ok) := by rw [cell_at hz1]; rfl
  have d9 : w1.cell? ⟨w.heap.size, 9, none⟩ = some (.int .i64 mtch) := by rw [cell_at hz1]; rfl
  have d10 : w1.cell? ⟨w.heap.size, 10, none⟩ = some (.int .i64 si) := by rw [cell_at hz1]; rfl
  have d11 : w1.cell? ⟨w.heap.size, 11, none⟩ = some (.int .i64 st) := by rw [cell_at hz1]; rfl
  have d12 : w1.cell? ⟨w.heap.size, 12, none⟩ = some (.string text) := by rw [cell_at hz1]; rfl
  clear hb1 hz1 hbs
  go_wp2_with fail
  refine (HT.out _ HB1.out).mono ?_;rintro e w2 ⟨rfl, hb2⟩;dsimp only;have HB2 := hideIt (HB1.out.trans (hb2.mono HB1.out.size));clear hb2
  go_wp2_with fail
  refine (HFR.out _).mono ?_;rintro e w3 ⟨rfl, hb3⟩;dsimp only;have HB3 := hideIt (HB2.out.trans (hb3.mono HB2.out.size));clear hb3;go_wp2
  go_ret2
  exact ⟨rfl, HB3.out⟩
end Go.Proofs.YtcaehfkfohianaaGreat.Nt
