/- What pack.List answers: the form of a list of texts. -/
import Derived.Test.YtfbdhihhimfaaaaBuild
namespace Go.Proofs.Ytfbdhihhimfaaaa
open Go.RowKit

/-- A slice of texts, as a value in a world. -/
def Strs (w : World) (a : Option Addr) (ss : List ByteArray) : Prop :=
  ss.length ≤ 9223372036854775807 ∧ (∀ s ∈ ss, s.size ≤ 9223372036854775807) ∧ ∀ i (h : i < ss.length), ∃ b off, a = some ⟨b, off, none⟩ ∧ b < w.heap.size ∧ w.cell? ⟨b, off + i, none⟩ = some (.string ss[i])
theorem Strs.keep {w w' : World} {a : Option Addr} {ss : List ByteArray} (h : Strs w a ss) (hb : Below w.heap.size w w') : Strs w' a ss := by
  refine ⟨h.1, h.2.1, fun i hi => ?_⟩
  obtain ⟨b, off, e, hlt, hc⟩ := h.2.2 i hi
  exact ⟨b, off, e, Nat.lt_of_lt_of_le hlt hb.size, (hb.cell hlt).trans hc⟩
def byt (ss : List ByteArray) : List (List UInt8) := ss.map (fun s => s.data.toList)
def flatT (ls : List (List UInt8)) : List UInt8 := (ls.map textL).flatten
def listL (ls : List (List UInt8)) : List UInt8 := uintL ls.length ++ flatT ls
def badL (ls : List (List UInt8)) : Bool := decide (4000 < ls.length) || ls.any (fun l => decide (60000 < l.length))
def listV (ls : List (List UInt8)) : List UInt8 := if badL ls = true then [] else listL ls
def listE (ls : List (List UInt8)) : Nat := if badL ls = true then 2 else 0
theorem textL_len (l : List UInt8) : (textL l).length ≤ 60010 := by
  unfold textL
  split
  · have := uintL_len l.length; simp; omega
  · simp
theorem flatT_len (ls : List (List UInt8)) : (flatT ls).length ≤ 60010 * ls.length := by
  induction ls with
  | nil => simp [flatT]
  | cons l ls ih => have := textL_len l; simp [flatT] at *; omega
theorem flatT_snoc (ls : List (List UInt8)) (l : List UInt8) : flatT (ls ++ [l]) = flatT ls ++ textL l := by simp [flatT]
theorem byt_len (ss : List ByteArray) : (byt ss).length = ss.length := by simp [byt]
theorem byt_take (ss : List ByteArray) (k : Nat) (h : k < ss.length) : (byt ss).take (k + 1) = (byt ss).take k ++ [ss[k].data.toList] := by
  rw [List.take_succ_eq_append_getElem (by simpa [byt] using h)]
  simp [byt]
/-- What has been gathered behind k rounds. -/
def gath (ss : List ByteArray) (k : Nat) : List UInt8 := uintL ss.length ++ flatT ((byt ss).take k)
theorem gath_len (ss : List ByteArray) (k : Nat) (h : ss.length ≤ 4000) : (gath ss k).length ≤ 240040010 := by
  have h1 := uintL_len ss.length
  have h2 := flatT_len ((byt ss).take k)
  have h3 : ((byt ss).take k).length ≤ ss.length := by simp [byt]; omega
  have h4 : 60010 * ((byt ss).take k).length ≤ 60010 * 4000 := Nat.mul_le_mul_left _ (by omega)
  simp [gath]; omega
theorem gath_step (ss : List ByteArray) (k : Nat) (h : k < ss.length) : gath ss (k + 1) = gath ss k ++ textL ss[k].data.toList := by
  unfold gath; rw [byt_take ss k h, flatT_snoc, List.append_assoc]
theorem gath_ne (ss : List ByteArray) (k : Nat) : gath ss k ≠ [] := by
  have := uintL_len ss.length
  intro h
  have h2 : (gath ss k).length = 0 := by rw [h]; rfl
  unfold gath at h2
  rw [List.length_append] at h2
  omega
theorem gath_end (ss : List ByteArray) : gath ss ss.length = listL (byt ss) := by
  unfold gath listL; rw [byt_len, List.take_of_length_le (by simp [byt])]
theorem bad_of (ss : List ByteArray) (k : Nat) (h : k < ss.length) (hb : 60000 < ss[k].size) : badL (byt ss) = true := by
  unfold badL
  rw [Bool.or_eq_true]
  right
  rw [List.any_eq_true]
  exact ⟨ss[k].data.toList, List.mem_map.2 ⟨ss[k], List.getElem_mem h, rfl⟩, by simpa using hb⟩
theorem good_of (ss : List ByteArray) (h4 : ss.length ≤ 4000) (h : ∀ k (h : k < ss.length), ss[k].size ≤ 60000) : badL (byt ss) = false := by
  unfold badL
  rw [Bool.or_eq_false_iff]
  refine ⟨by simp [byt]; omega, ?_⟩
  rw [List.any_eq_false]
  intro l hl
  simp [byt] at hl
  obtain ⟨s, hs, rfl⟩ := hl
  obtain ⟨k, hk, rfl⟩ := List.getElem_of_mem hs
  have := h k hk
  simp; exact this
theorem cells_cat (l : List UInt8) (m : List UInt8) : Lib.byteCells l ++ Lib.strCells ⟨m.toArray⟩ = Lib.byteCells (l ++ m) := by
  rw [Lib.strCells_eq, Lib.byteCells_append]
theorem keepB {T e : TypeId} {B b : Nat} {p : Value} {bs : List Value} {w w' : World} (h : Lib.BuilderAt T e B b p bs w) (hb : Below w.heap.size w w') : Lib.BuilderAt T e B b p bs w' := by
  have hlt := h.lt
  obtain ⟨hB, v, hk, hown, hne⟩ := h
  exact ⟨hB, v, (hb.block b hlt).trans hk, hown.kept (row := none) ⟨hb.os, hb.tape, hb.output, hb.size, fun k hk _ => hb.block k hk⟩ (by cases v.ownBlock <;> simp), hne⟩
theorem keepI {T e : TypeId} {B b : Nat} {bs : List Value} {w w' : World} (h : Lib.IsBuilder T e B b bs w) (hb : Below w.heap.size w w') : Lib.IsBuilder T e B b bs w' := by
  rcases h with h | h
  · exact .inl (keepB h hb)
  · exact .inr (keepB h hb)
theorem sizeL (l : List UInt8) : (⟨l.toArray⟩ : ByteArray).size = l.length := by show l.toArray.size = _; simp
theorem list_many (a : Option Addr) (cap : Nat) (ss : List ByteArray) (w : World) (h : Strs w a ss) (hn : 4000 < ss.length) :
    Calls Try.prog 10 #[.slice a ss.length cap] w fun e w' => e = .returned (.tuple #[.string ⟨#[]⟩, .int .i64 2]) ∧ Below w.heap.size w w' := by
  have hb := h.1
  have h' : (4000 : Int) < ss.length := by omega
  go_enter Try.func10, Try.ntmps10
  go_wp2
  go_ret2
  exact ⟨rfl, Below.refl _ _⟩
set_option maxHeartbeats 2000000 in
set_option maxRecDepth 100000 in
theorem list_few (a : Option Addr) (cap : Nat) (ss : List ByteArray) (w : World) (h : Strs w a ss) (hn : ss.length ≤ 4000) :
    Calls Try.prog 10 #[.slice a ss.length cap] w fun e w' => e = .returned (.tuple #[.string ⟨(listV (byt ss)).toArray⟩, .int .i64 (listE (byt ss) : Int)]) ∧ Below w.heap.size w w' := by
  have h' : ¬ (4000 : Int) < ss.length := by omega
  go_enter Try.func10, Try.ntmps10
  go_wp2_with fail
  refine (uint_any ss.length _ (by omega)).mono ?_
  rintro e w1 ⟨rfl, hb1⟩
  have hI := keepI (Lib.fresh_isBuilder 47 5 w) hb1
  have hb1' : Below w.heap.size w w1 := ((Below.refl _ _).alloc (Nat.le_refl _) _).trans (hb1.mono (by simp))
  have hs1 := hb1'.size
  go_wp2_with fail
  refine (bWrite w.heap.size w.heap.size [] ⟨(uintL ss.length).toArray⟩ w1 hI (by have := uintL_len ss.length; rw [sizeL]; simp; omega) hs1).mono ?_
  rintro e w2 ⟨rfl, hB2, hb2⟩
  have hB2' : Lib.BuilderAt 47 5 w.heap.size w.heap.size (.pointer (some ⟨w.heap.size, 0, none⟩)) (Lib.byteCells (gath ss 0)) w2 := by
    have e : gath ss 0 = uintL ss.length := by simp [gath, flatT]
    rw [e]
    exact hB2
  have hb02 : Below w.heap.size w w2 := hb1'.trans hb2
  clear hB2 hI hb1 hb1' hs1 hb2
  go_wp2
  go_loopw [19] (fun c wr => ∃ k : Nat, k ≤ ss.length ∧ c = .int .i64 (k : Int) ∧ Lib.BuilderAt 47 5 w.heap.size w.heap.size (.pointer (some ⟨w.heap.size, 0, none⟩)) (Lib.byteCells (gath ss k)) wr ∧ Below w.heap.size w wr ∧ Hid (∀ j (h : j < ss.length), j < k → ss[j].size ≤ 60000)) (fun c _ => ss.length - (intOf c).toNat)
  case atStart => exact ⟨0, by omega, rfl, hB2', hb02, fun j _ h => by omega⟩
  case round =>
    obtain ⟨k, hk, rfl, hB, hb, Hg⟩ := hrel
    clear hB2' hb02
    have hsz := hb.size
    by_cases hlt : k < ss.length
    · have hlt' : (k : Int) < ss.length := by omega
      obtain ⟨bl, off, rfl, hbl, hc⟩ := h.2.2 k hlt
      have hc' : wr.cell? ⟨bl, off + k, none⟩ = some (.string ss[k]) := (hb.cell hbl).trans hc
      have hss := h.2.1 ss[k] (List.getElem_mem hlt)
      clear h hc
      by_cases hbad : 60000 < ss[k].size
      · have Hbad := bad_of ss k hlt hbad
        have Hb : Hid (listV (byt ss) = [] ∧ listE (byt ss) = 2) := by simp [Hid, listV, listE, Hbad]
        clear Hbad
        go_wp2_with fail
        refine (text_out ss[k] _ hbad hss).mono ?_
        rintro e w3 ⟨rfl, hb3⟩
        go_wp2
        go_ret2
        rw [Hb.out.1, Hb.out.2]
        exact ⟨rfl, hb.trans (hb3.mono hsz)⟩
      · go_wp2_with fail
        refine (text_any ss[k] _ hss).mono ?_
        rintro e w3 ⟨rfl, hb3⟩
        have hE : textE ss[k].data.toList = 0 := by unfold textE; rw [if_pos (by simpa using hbad)]
        rw [hE]
        clear hE
        have hB3 := keepB hB hb3
        have hb03 : Below w.heap.size w w3 := hb.trans (hb3.mono hsz)
        have hsz3 := hb03.size
        go_wp2_with fail
        refine (bWrite w.heap.size w.heap.size (Lib.byteCells (gath ss k)) ⟨(textL ss[k].data.toList).toArray⟩ w3 (.inr hB3) (by have := gath_len ss k hn; have := textL_len ss[k].data.toList; rw [Lib.byteCells_length, sizeL]; omega) hsz3).mono ?_
        rintro e w4 ⟨rfl, hB4, hb4⟩
        rw [cells_cat, ← gath_step ss k hlt] at hB4
        go_wp2
        go_roundw
        case rel => exact ⟨k + 1, by omega, by go_num, hB4, hb03.trans hb4, fun j hj hjk => by
            rcases Nat.lt_or_eq_of_le (Nat.le_of_lt_succ hjk) with h1 | h1
            · exact Hg.out j hj h1
            · subst h1; omega⟩
        case measure => simp [intOf]; omega
    · have hlt' : ¬ (k : Int) < ss.length := by omega
      have e : k = ss.length := by omega
      have Hb : Hid (listV (byt ss) = listL (byt ss) ∧ listE (byt ss) = 0) := by
        have := good_of ss hn (fun j hj => Hg.out j hj (by omega))
        simp [Hid, listV, listE, this]
      subst e
      rw [gath_end] at hB
      go_wp2_with fail
      refine (bString w.heap.size w.heap.size (listL (byt ss)) _ (.inr hB) (by rw [← gath_end]; exact gath_ne _ _)).mono ?_
      rintro e w5 ⟨rfl, hb5⟩
      go_wp2
      go_ret2
      rw [Hb.out.1, Hb.out.2]
      exact ⟨rfl, hb.trans hb5⟩
end Go.Proofs.Ytfbdhihhimfaaaa
