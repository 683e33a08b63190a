/- What accounts have in all: the program and the document. -/
import Derived.Test.YtjinhiabnpmiaaaRefD
namespace Go.Proofs.Ytjinhiabnpmiaaa
open Go.RowKit
/-- A list of accounts that can be read. -/
def LGot (w : World) (v : Value) (L : List AccV) : Prop :=
  L.length * 32 ≤ 140737488355328 ∧ ∃ a c, v = .slice a L.length c ∧ ∀ i (h : i < L.length), ∃ b off g, a = some ⟨b, off, none⟩ ∧ b < w.heap.size ∧ w.cell? ⟨b, off + i * 2, none⟩ = some g ∧ w.cell? ⟨b, off + i * 2 + 1, none⟩ = some (.int .i64 (L[i]).ct) ∧ AGot w g (L[i]).l
theorem LGot.keep {w w' : World} {v : Value} {L : List AccV} (h : LGot w v L) (hb : Below w.heap.size w w') : LGot w' v L := by
  obtain ⟨h8, a, c, rfl, hr⟩ := h
  refine ⟨h8, a, c, rfl, fun i hi => ?_⟩
  obtain ⟨b, off, g, rfl, hlt, c0, c1, hg⟩ := hr i hi
  exact ⟨b, off, g, rfl, Nat.lt_of_lt_of_le hlt hb.size, (hb.cell hlt).trans c0, (hb.cell hlt).trans c1, hg.keep hb⟩
/-- Amounts and a number come back. -/
def TotBack (X : List AmtV × Int) (w : World) (e : Ending) (w' : World) : Prop := ∃ g, e = .returned (.tuple #[g, .int .i64 X.2]) ∧ Mine w g X.1 w'
theorem all_take {L : List AccV} {t : Nat} (h : t < L.length) (hp : (L.take t).all accB = true) (ha : accB L[t] = true) : (L.take (t + 1)).all accB = true := by
  rw [List.take_succ_eq_append_getElem h, List.all_append, hp]
  simp [ha]
theorem all_not {L : List AccV} {t : Nat} (h : t < L.length) (ha : accB L[t] = false) : L.all accB = false := by
  rw [List.all_eq_false]
  exact ⟨L[t], List.getElem_mem h, by simp [ha]⟩
theorem sumA_take_in {L : List AccV} {t : Nat} (a : Int) (h : L.length ≤ 1000) (hp : (L.take t).all accB = true) : 0 ≤ sumA (L.take t) a ∧ sumA (L.take t) a ≤ 9007199254740992000 := by
  have h1 := sumA_in (L.take t) a hp
  have h2 : (L.take t).length ≤ 1000 := by rw [List.length_take]; omega
  omega
theorem Mine.base {w wx : World} {g : Value} {xs : List AmtV} {wy : World} (h : Mine wx g xs wy) (hb : Below w.heap.size w wx) : Mine w g xs wy := ⟨own_base h.own hb.size, below_via hb h.bel⟩
set_option maxHeartbeats 8000000 in
set_option maxRecDepth 100000 in
theorem total_is (L : List AccV) (v : Value) (w : World) (h : LGot w v L) : Calls Try.prog 20 #[v] w (TotBack (totL L) w) := by
  obtain ⟨h8, a, c, rfl, hr⟩ := h
  have HH := hideIt hr
  clear hr
  unfold TotBack
  by_cases hn : 1000 < L.length
  · have hnI : (1000 : Int) < (L.length : Int) := by omega
    rw [show totL L = ([], 120) from if_neg (by omega)]
    go_enter Try.func20, Try.ntmps20
    go_wp2
    go_ret2
    exact ⟨_, rfl, own_nil _ _, Below.refl _ _⟩
  · have hnI : ¬ (1000 : Int) < (L.length : Int) := by omega
    have hn2 : L.length ≤ 1000 := by omega
    clear hn
    go_enter Try.func20, Try.ntmps20
    go_wp2
    go_loopw [13] (fun v wr => ∃ (t : Nat), v = .int .i64 t ∧ t ≤ L.length ∧ Hid (wr.heap[w.heap.size]? = some (.cells (shA (fun k => sumA (L.take t) k)) 55 (0, 0)) ∧ (L.take t).all accB = true ∧ Below w.heap.size w wr)) (fun v _ => L.length - (intOf v).toNat)
    case atStart => exact ⟨0, rfl, Nat.zero_le _, hideIt ⟨heap_alloc_new w _, rfl, below1 w _⟩⟩
    case round =>
      obtain ⟨t, rfl, ht, HR⟩ := hrel
      by_cases hlt : t < L.length
      · have hltI : (t : Int) < (L.length : Int) := by omega
        have ht0 : (0 : Int) ≤ (t : Int) := by omega
        obtain ⟨b, off, g, rfl, hbl, q0, q1, hg⟩ := HH.out t hlt
        have hB := HR.out.2.2
        have c0 := (hB.cell (p := ⟨b, off + t * 2, none⟩) hbl).trans q0
        have c1 := (hB.cell (p := ⟨b, off + t * 2 + 1, none⟩) hbl).trans q1
        have hBS := hB.size
        have hps := (Array.getElem?_eq_some_iff.1 HR.out.1).1
        have HST := hideIt (fun a => sumA_take L t a hlt)
        have HALL := hideIt (fun ha => all_take hlt HR.out.2.1 ha)
        have HNOT := hideIt (fun ha => all_not (L := L) hlt ha)
        have HIN := hideIt (fun a => sumA_take_in (t := t) a hn2 HR.out.2.1)
        have HA := hideIt (hB.alloc (by omega) (.cells (accA L[t] g) 24))
        have HC := hideIt (check_is L[t] g (wr.alloc (.cells (accA L[t] g) 24)) (hg.keep HA.out))
        have HX := hideIt (heap_alloc_new wr (.cells (accA L[t] g) 24))
        have HP0 := hideIt ((heap_alloc_old wr (.cells (accA L[t] g) 24) hps).trans HR.out.1)
        have HG := hideIt hg
        clear q0 q1 hB HR hg
        generalize L[t] = en at *
        obtain ⟨l, ct⟩ := en
        unfold accV accA chkI at *
        simp only at c1 HA HC HX HP0 HST HG
        obtain ⟨ga, gc, rfl⟩ := HG.out.slice
        cases hacc : accB ⟨l, ct⟩
        · rw [hacc] at HC
          have HT : Hid (totL L = ([], 120)) := if_neg (by rw [HNOT.out hacc]; simp)
          simp only [Bool.false_eq_true, if_false] at HC
          go_wp2_with fail
          refine HC.out.mono ?_
          rintro e w1 ⟨rfl, hbl⟩
          dsimp only
          have HB2 := hideIt (below_via HA.out hbl)
          clear hbl
          go_wp2
          go_ret2
          rw [HT.out]
          exact ⟨_, rfl, own_nil _ _, HB2.out⟩
        · rw [hacc] at HC
          simp only [if_true] at HC
          go_wp2_with fail
          refine HC.out.mono ?_
          rintro e w1 ⟨rfl, hbl2⟩
          dsimp only
          have HB2 := hideIt (below_via HA.out hbl2)
          have x0 : w1.cell? ⟨wr.heap.size, 0, none⟩ = some (.slice ga l.length gc) := box_cell hbl2 0
          have HP1 := hideIt ((hbl2.block _ (by simp; omega)).trans HP0.out)
          have HADD := hideIt (add_is w.heap.size _ (.slice ga l.length gc) l w1 HP1.out (HG.out.keep HB2.out) (accB_in hacc).1 (fun k _ => by have := HIN.out k; omega) (HG.out.apart (Nat.le_refl _)))
          clear hbl2 c0 c1
          go_wp2_with fail
          refine HADD.out.mono ?_
          rintro e w2 ⟨rfl, hsh, ho⟩
          dsimp only
          have HN : Hid (w2.heap[w.heap.size]? = some (.cells (shA (fun k => sumA (L.take (t + 1)) k)) 55 (0, 0)) ∧ (L.take (t + 1)).all accB = true ∧ Below w.heap.size w w2) := by
            refine ⟨?_, HALL.out hacc, below_out HB2.out ho (fun k e => by omega)⟩
            rw [hsh]
            have e : (fun k : Nat => sumA (L.take t) k + balL l k) = fun k : Nat => sumA (L.take (t + 1)) k := by
              funext k
              rw [HST.out k]
            rw [e]
          clear hsh ho HADD HP1 HB2 x0
          go_wp2
          go_roundw
          case rel => exact ⟨t + 1, by go_num, by omega, HN⟩
          case measure => simp [intOf]; omega
      · have hltI : ¬ (t : Int) < (L.length : Int) := by omega
        have e1 : L.take t = L := List.take_of_length_le (by omega)
        rw [e1] at HR
        have HAM := hideIt (amounts_is w.heap.size _ wr HR.out.1)
        have hall := HR.out.2.1
        have HT : Hid (totL L = (pre (fun k => sumA L k) 4, 0)) := if_pos ⟨hn2, hall⟩
        clear hall
        go_wp2_with fail
        refine HAM.out.mono ?_
        rintro e w1 ⟨g, rfl, hm⟩
        dsimp only
        have HM := hideIt (hm.base HR.out.2.2)
        clear hm
        go_wp2
        go_ret2
        rw [HT.out]
        exact ⟨_, rfl, HM.out⟩
end Go.Proofs.Ytjinhiabnpmiaaa
