/- The walk of rialtolaw01.PackReads: it answers true, from any place of any bytes. -/
import Derived.Test.YtfbdhihhimfaaaaRefTakeB
namespace Go.Proofs.Ytfbdhihhimfaaaa
open Go.RowKit

theorem byt_inj {a b : List ByteArray} (h : byt a = byt b) : a = b := by
  unfold byt at h
  refine (List.map_inj_right (f := fun s : ByteArray => s.data.toList) ?_).1 h
  intro x y hxy
  apply ByteArray.ext
  exact Array.toList_inj.1 hxy
theorem strs_taken {w : World} {B : Nat} {a : Option Addr} {cap : Nat} {ss : List ByteArray} (h : w.ownsRow B 9 1 (.slice a ss.length cap) ss.length (ss.map Value.string)) (hok : sizesOk ss) (hl : ss.length ≤ 4000) : Strs w a ss := by
  obtain ⟨a', cap', e, hS⟩ := strs_of_own h (by omega) (fun s hs => by have := hok s hs; omega)
  cases e
  exact hS
/-- A row that may be written: its cells lie in a block from B on. -/
def Mine (B n : Nat) (a : Option Addr) (w : World) : Prop := n = 0 ∨ ∃ g cur, a = some ⟨g, 0, none⟩ ∧ B ≤ g ∧ w.heap[g]? = some (.cells cur 9 (0, 0)) ∧ n ≤ cur.size
theorem mine_of {w : World} {B : Nat} {a : Option Addr} {cap n : Nat} {xs : List Value} (h : w.ownsRow B 9 1 (.slice a n cap) n xs) : Mine B n a w := by
  rcases h.2 with ⟨hv, h0⟩ | ⟨g, cap', cur, hv, hb, hc, hn, hm, hs, _⟩
  · exact .inl h0
  · cases hv
    exact .inr ⟨g, cur, rfl, hb, hc, by omega⟩
theorem mine_cell {w : World} {B n g k : Nat} (h : Mine B n (some ⟨g, 0, none⟩) w) (hk : k < n) : (∃ v, w.cell? ⟨g, k, none⟩ = some v) ∧ w.frozen? ⟨g, k, none⟩ = false ∧ B ≤ g := by
  rcases h with h | ⟨g', cur, e, hb, hc, hn⟩
  · omega
  · cases e
    exact ⟨⟨cur[k]'(by omega), by rw [Lib.cell_of_heap hc]; simp⟩, Lib.frozen_of_heap hc k, hb⟩
theorem mine_set {w : World} {B n g k : Nat} (v : Value) (h : Mine B n (some ⟨g, 0, none⟩) w) : Mine B n (some ⟨g, 0, none⟩) (w.setCell ⟨g, k, none⟩ v) := by
  rcases h with h | ⟨g', cur, e, hb, hc, hn⟩
  · exact .inl h
  · cases e
    exact .inr ⟨g, cur.setIfInBounds k v, rfl, hb, by simp [World.setCell, Array.getElem?_modify, hc], by simpa using hn⟩
theorem mine_some {w : World} {B n k : Nat} {a : Option Addr} (h : Mine B n a w) (hk : k < n) : ∃ g, a = some ⟨g, 0, none⟩ := by
  rcases h with h | ⟨g, cur, e, _⟩
  · omega
  · exact ⟨g, e⟩
set_option maxHeartbeats 4000000 in
set_option maxRecDepth 100000 in
theorem reads_walk (s : ByteArray) (a : Int) (w : World) (hs : s.size ≤ maxLen) :
    Calls Try.prog 4 #[.string s, .int .i64 a] w fun e w' => e = .returned (.bool true) ∧ Below w.heap.size w w' := by
  have hll := tkL_len s.data.toList a
  obtain ⟨n1, n2, n3, hU⟩ : ∃ n1 n2 n3, tkU s.data.toList a = (n1, n2, n3) := ⟨_, _, _, rfl⟩
  obtain ⟨i1, i2, i3, hI⟩ : ∃ i1 i2 i3, tkI s.data.toList a = (i1, i2, i3) := ⟨_, _, _, rfl⟩
  obtain ⟨t1, t2, t3, hT⟩ : ∃ t1 t2 t3, tkT s.data.toList a = (t1, t2, t3) := ⟨_, _, _, rfl⟩
  obtain ⟨l1, l2, l3, hL⟩ : ∃ l1 l2 l3, tkL s.data.toList a = (l1, l2, l3) := ⟨_, _, _, rfl⟩
  have c18 := fun w => take_any s a w hs
  have c19 := fun w => refTake_any s a w hs
  have c20 := fun w => takeInt_any s a w hs
  have c21 := fun w => refTakeInt_any s a w hs
  have c22 := fun w => takeText_any s a w hs
  have c23 := fun w => refTakeText_any s a w hs
  have c24 := fun w => refTakeList_any s a w hs
  have c25 := fun w => takeList_any s a w hs
  rw [hU] at c18 c19
  rw [hI] at c20 c21
  rw [hT] at c22 c23
  rw [hL] at c24 c25
  unfold tup at c18 c19
  unfold tupI at c20 c21
  unfold tupT at c22 c23
  clear hll hU hI hT hL
  have H18 := hideIt c18
  have H19 := hideIt c19
  have H20 := hideIt c20
  have H21 := hideIt c21
  have H22 := hideIt c22
  have H23 := hideIt c23
  have H24 := hideIt c24
  have H25 := hideIt c25
  clear c18 c19 c20 c21 c22 c23 c24 c25
  go_enter Try.func4, Try.ntmps4
  go_wp2_with fail
  refine (H18.out _).mono ?_
  rintro e w' ⟨rfl, rfl⟩
  go_wp2_with fail
  refine (H19.out _).mono ?_
  rintro e w' ⟨rfl, rfl⟩
  go_wp2_with fail
  refine (H20.out _).mono ?_
  rintro e w' ⟨rfl, rfl⟩
  go_wp2_with fail
  refine (H21.out _).mono ?_
  rintro e w0 ⟨rfl, rfl⟩
  go_wp2_with fail
  refine (H22.out _).mono ?_
  rintro e w1 ⟨rfl, hb1⟩
  go_wp2_with fail
  refine (H23.out _).mono ?_
  rintro e w2 ⟨rfl, rfl⟩
  go_wp2_with fail
  refine (live_any _).mono ?_
  rintro e w3 ⟨rfl, hb3⟩
  have hb03 : Below w0.heap.size w0 w3 := hb1.trans (hb3.mono hb1.size)
  clear hb1 hb3
  clear H18 H19 H20 H21 H22 H23
  go_wp2_with fail
  refine (H24.out _).mono ?_
  rintro e w4 ⟨aw, ws, capw, rfl, hownw, hbyw, hokw, hlw, hb4⟩
  have hSw := hideIt (strs_taken hownw hokw hlw)
  have Hbyw := hideIt hbyw
  have hb04 : Below w0.heap.size w0 w4 := hb03.trans (hb4.mono hb03.size)
  clear hb03 hb4 H24 hownw hokw hbyw
  go_wp2
  go_loopw [26] (fun c wr => ∃ k : Nat, k ≤ 2 ∧ c = .int .i64 (k : Int) ∧ Hid (Strs wr aw ws) ∧ Below w0.heap.size w0 wr) (fun c _ => 2 - (intOf c).toNat)
  case atStart => exact ⟨0, by omega, rfl, hSw, hb04⟩
  case round =>
    clear hSw hb04
    obtain ⟨k, hk, rfl, HS, hb⟩ := hrel
    by_cases hlt : k < 2
    · have hlt' : (k : Int) < 2 := by omega
      have hsz := hb.size
      go_wp2_with fail
      refine (H25.out _).mono ?_
      rintro e w5 ⟨al, ls, capl, rfl, hown, hby, hok, hl, hb5⟩
      obtain rfl : ls = ws := byt_inj (hby.trans Hbyw.out.symm)
      have HS5 := hideIt (HS.out.keep hb5)
      have hSl := strs_taken hown hok hl
      have HM := hideIt (mine_of hown)
      clear hown hok hby
      go_wp2_with fail
      refine (same_any al aw capl capw ls _ hSl HS5.out).mono ?_
      rintro e w6 ⟨rfl, hb6⟩
      have Hb56 := hideIt (hb5.trans (hb6.mono hb5.size))
      have HM6 : Hid (Mine wr.heap.size ls.length al w6) := by
        rcases HM.out with h | ⟨g, cur, e, hB, hc, hn⟩
        · exact .inl h
        · exact .inr ⟨g, cur, e, hB, (hb6.block g (Array.getElem?_eq_some_iff.1 hc).1).trans hc, hn⟩
      clear HM hSl HS5 hb5 hb6
      obtain ⟨wo, rfl⟩ : ∃ wo : World, wo = wr := ⟨_, rfl⟩
      go_wp2
      go_loopw [30] (fun c wi => ∃ j : Nat, j ≤ ls.length ∧ c = .int .i64 (j : Int) ∧ Hid (Mine wo.heap.size ls.length al wi) ∧ Hid (Below wo.heap.size wo wi)) (fun c _ => ls.length - (intOf c).toNat)
      case atStart => exact ⟨0, by omega, rfl, HM6, Hb56⟩
      case round =>
        clear HM6 Hb56
        obtain ⟨j, hj, rfl, HM, Hbi⟩ := hrel
        by_cases hjl : j < ls.length
        · have hjl' : (j : Int) < ls.length := by omega
          obtain ⟨g, rfl⟩ := mine_some HM.out hjl
          obtain ⟨⟨vc, hvc⟩, hfc, hgB⟩ := mine_cell HM.out hjl
          go_wp2
          go_roundw
          case rel => exact ⟨j + 1, by omega, by go_num, mine_set _ HM.out, Hbi.out.setCell (p := ⟨g, j, none⟩) hgB _⟩
          case measure => simp [intOf]; omega
        · have hjl' : ¬ (j : Int) < ls.length := by omega
          go_wp2
          exact ⟨⟨k + 1, by omega, by go_num, HS.out.keep Hbi.out, hb.trans (Hbi.out.mono hsz)⟩, by simp [intOf]; omega⟩
    · have hlt' : ¬ (k : Int) < 2 := by omega
      go_wp2
      go_ret
      exact ⟨rfl, hb⟩
end Go.Proofs.Ytfbdhihhimfaaaa
