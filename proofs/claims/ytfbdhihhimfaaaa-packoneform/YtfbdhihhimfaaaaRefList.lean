/- What the document's List answers: the same as package pack's. -/
import Derived.Test.YtfbdhihhimfaaaaMark
namespace Go.Proofs.Ytfbdhihhimfaaaa
open Go.RowKit

theorem refList_many (a : Option Addr) (cap : Nat) (ss : List ByteArray) (w : World) (h : Strs w a ss) (hn : 4000 < ss.length) :
    Calls Try.prog 11 #[.slice a ss.length cap] w fun e w' => e = .returned (.tuple #[.string ⟨#[]⟩, .int .i64 2]) ∧ Below w.heap.size w w' := by
  have hb := h.1
  have h' : (4000 : Int) < ss.length := by omega
  go_enter Try.func11, Try.ntmps11
  go_wp2
  go_ret2
  exact ⟨rfl, Below.refl _ _⟩
set_option maxHeartbeats 2000000 in
set_option maxRecDepth 100000 in
theorem refList_few (a : Option Addr) (cap : Nat) (ss : List ByteArray) (w : World) (h : Strs w a ss) (hn : ss.length ≤ 4000) :
    Calls Try.prog 11 #[.slice a ss.length cap] w fun e w' => e = .returned (.tuple #[.string ⟨(listV (byt ss)).toArray⟩, .int .i64 (listE (byt ss) : Int)]) ∧ Below w.heap.size w w' := by
  have h' : ¬ (4000 : Int) < ss.length := by omega
  go_enter Try.func11, Try.ntmps11
  go_wp2_with fail
  refine (refUint_any ss.length _ (by omega)).mono ?_
  rintro e w1 ⟨rfl, hb1⟩
  obtain ⟨v0, w2, hconv, hown0, hb2⟩ := toBytes_M w1 ⟨(uintL ss.length).toArray⟩ (by have := uintL_len ss.length; rw [sizeL]; omega)
  have hs1 := hb1.size
  have hown : OwnM w2 w.heap.size v0 (gath ss 0) := by
    obtain ⟨g, c, cur, fz, e1, hb, r⟩ := hown0
    have e : gath ss 0 = uintL ss.length := by simp [gath, flatT]
    rw [e]
    exact ⟨g, c, cur, fz, e1, by omega, r⟩
  have hb02 : Below w.heap.size w w2 := hb1.trans (hb2.mono hs1)
  clear hown0 hb1 hb2 hs1
  go_wp2
  go_loopw [4, 5] (fun v c wr => ∃ k : Nat, k ≤ ss.length ∧ c = .int .i64 (k : Int) ∧ OwnM wr w.heap.size v (gath ss k) ∧ Below w.heap.size w wr ∧ Hid (∀ j (h : j < ss.length), j < k → ss[j].size ≤ 60000)) (fun _ c _ => ss.length - (intOf c).toNat)
  case atStart => exact ⟨0, by omega, rfl, hown, hb02, fun j _ h => by omega⟩
  case round =>
    obtain ⟨k, hk, rfl, hB, hb, Hg⟩ := hrel
    clear hown hb02 hconv
    have hsz := hb.size
    by_cases hlt : k < ss.length
    · have hlt' : (k : Int) < ss.length := by omega
      obtain ⟨bl, off, rfl, hbl, hc⟩ := h.2.2 k hlt
      have hc' : wr.cell? ⟨bl, off + k, none⟩ = some (.string ss[k]) := (hb.cell hbl).trans hc
      have hss := h.2.1 ss[k] (List.getElem_mem hlt)
      clear h hc
      by_cases hbad : 60000 < ss[k].size
      · have Hbad := bad_of ss k hlt hbad
        have Hb : Hid (listV (byt ss) = [] ∧ listE (byt ss) = 2) := by simp [Hid, listV, listE, Hbad]
        clear Hbad
        go_wp2_with fail
        refine (refText_out ss[k] _ hbad hss).mono ?_
        rintro e w3 ⟨rfl, hb3⟩
        go_wp2
        go_ret2
        rw [Hb.out.1, Hb.out.2]
        exact ⟨rfl, hb.trans (hb3.mono hsz)⟩
      · go_wp2_with fail
        refine (refText_any ss[k] _ hss).mono ?_
        rintro e w3 ⟨rfl, hb3⟩
        have hE : textE ss[k].data.toList = 0 := by unfold textE; rw [if_pos (by simpa using hbad)]
        rw [hE]
        clear hE
        have hB3 := hB.keep hb3
        have hb03 : Below w.heap.size w w3 := hb.trans (hb3.mono hsz)
        have hsz3 := hb03.size
        have hlen : (gath ss k).length + (⟨(textL ss[k].data.toList).toArray⟩ : ByteArray).size ≤ 140737488355328 := by
          have := gath_len ss k hn; have := textL_len ss[k].data.toList; rw [sizeL]; omega
        go_wp2_with (at_builtin; refine wpList_append_M _ rfl _ _ rfl w.heap.size _ (gath ss k) rfl hB3 ⟨(textL ss[k].data.toList).toArray⟩ rfl hlen hsz3 ?_)
        intro v' w4 hown4 hgrow
        have hown4' : OwnM w4 w.heap.size v' (gath ss (k + 1)) := by rw [gath_step ss k hlt]; exact hown4
        have hb04 : Below w.heap.size w w4 := hb03.grown hgrow hsz3 (fun j hj => (hB3.lt j hj).1)
        clear hown4 hlen
        go_wp2
        go_roundw
        case rel => exact ⟨k + 1, by omega, by go_num, hown4', hb04, fun j hj hjk => by
            rcases Nat.lt_or_eq_of_le (Nat.le_of_lt_succ hjk) with h1 | h1
            · exact Hg.out j hj h1
            · subst h1; omega⟩
        case measure => simp [intOf]; omega
    · have hlt' : ¬ (k : Int) < ss.length := by omega
      have e : k = ss.length := by omega
      have Hb : Hid (listV (byt ss) = listL (byt ss) ∧ listE (byt ss) = 0) := by
        have := good_of ss hn (fun j hj => Hg.out j hj (by omega))
        simp [Hid, listV, listE, this]
      subst e
      rw [gath_end] at hB
      have hc := conv_M _ _ _ _ hB
      go_wp2
      go_ret2
      rw [Hb.out.1, Hb.out.2]
      exact ⟨rfl, hb⟩
theorem listV_many (ss : List ByteArray) (hn : 4000 < ss.length) : listV (byt ss) = [] ∧ listE (byt ss) = 2 := by
  have : badL (byt ss) = true := by unfold badL; rw [byt_len, Bool.or_eq_true]; left; simpa using hn
  simp [listV, listE, this]
theorem refList_any (a : Option Addr) (cap : Nat) (ss : List ByteArray) (w : World) (h : Strs w a ss) :
    Calls Try.prog 11 #[.slice a ss.length cap] w fun e w' => e = .returned (.tuple #[.string ⟨(listV (byt ss)).toArray⟩, .int .i64 (listE (byt ss) : Int)]) ∧ Below w.heap.size w w' := by
  by_cases hn : ss.length ≤ 4000
  · exact refList_few a cap ss w h hn
  · obtain ⟨e1, e2⟩ := listV_many ss (by omega)
    rw [e1, e2]
    exact refList_many a cap ss w h (by omega)
theorem list_any (a : Option Addr) (cap : Nat) (ss : List ByteArray) (w : World) (h : Strs w a ss) :
    Calls Try.prog 10 #[.slice a ss.length cap] w fun e w' => e = .returned (.tuple #[.string ⟨(listV (byt ss)).toArray⟩, .int .i64 (listE (byt ss) : Int)]) ∧ Below w.heap.size w w' := by
  by_cases hn : ss.length ≤ 4000
  · exact list_few a cap ss w h hn
  · obtain ⟨e1, e2⟩ := listV_many ss (by omega)
    rw [e1, e2]
    exact list_many a cap ss w h (by omega)
end Go.Proofs.Ytfbdhihhimfaaaa
