/- live: walked. -/
import Derived.Test.YtagfolckodpioaaLn
import Derived.Test.YtagfolckodpioaaTripF
import Derived.Test.YtagfolckodpioaaR2
import Derived.Test.YtagfolckodpioaaSameN
namespace Go.Proofs.Ytagfolckodpioaa.K2
open Go.RowKit Go.Maps Go.Proofs.Ytagfolckodpioaa
set_option linter.all false
def m0 : MsgV := ⟨2, 1, 2, 3, 0, 0, none, 0, 0, 0, true, 0, 0, 0, ⟨#[]⟩⟩
def p0 : PkV := ⟨1, 2, ⟨#[97]⟩⟩
theorem body0 : bodyL m0 [] = [2, 1, 2, 3, 1] := by decide
theorem may0 : mayB m0 [] = true := by
  simp [mayB, headB, bodyB, eqF, m0, wiB, entsB, fOf]
theorem enc0 : encL m0 [] = frameL [2, 1, 2, 3, 1] := by unfold encL; rw [if_pos may0, body0]
theorem encE0 : encE m0 [] = 0 := by unfold encE; rw [if_pos may0]
theorem dec0 : decL (frameL [2, 1, 2, 3, 1]) = some (withE m0 none 0 0, []) := by
  have := dec_enc m0 [] rfl may0
  rw [body0] at this
  exact this
theorem frm0 : frmL [2, 1, 2, 3, 1] = frameL [2, 1, 2, 3, 1] := rfl
theorem pg_upd (f : Pks) (x y : PkV) (v : Int) : pg (updP f x v) y = if eqP y x = true then v else pg f y := by
  unfold pg updP
  by_cases e : eqP y x = true
  · rw [if_pos e, if_pos e]
    rfl
  · rw [if_neg e, if_neg e]
def f0 : Pks := fun _ => none
def f1 : Pks := updP f0 p0 (pg f0 p0 + 1)
def f2 : Pks := updP f1 p0 (pg f1 p0 + 1)
theorem pg0 (x : PkV) : pg f0 x = 0 := rfl
theorem pg1 (x : PkV) : pg f1 x = if eqP x p0 = true then 1 else 0 := by unfold f1; rw [pg_upd, pg0, pg0]; rfl
theorem pg1p : pg f1 p0 = 1 := by rw [pg1, if_pos (eqP_self p0)]
theorem pg2 (x : PkV) : pg f2 x = if eqP x p0 = true then 2 else 0 := by
  unfold f2
  rw [pg_upd, pg1p, pg1]
  by_cases e : eqP x p0 = true
  · rw [if_pos e, if_pos e]
    rfl
  · rw [if_neg e, if_neg e, if_neg e]
theorem pok0 : PkOk p0 := ⟨by decide, by decide, by unfold maxLen; decide⟩
theorem len0 : sumK f2 (fun _ => true) [p0] = 2 := by
  unfold sumK
  simp only [List.map_cons, List.map_nil, List.sum_cons, List.sum_nil]
  rw [if_pos trivial, pg2, if_pos (eqP_self p0)]
  rfl
theorem msg_at {w : World} {k : Nat} {m : MsgV} (h : w.heap[k]? = some (.cells (msgC m) 28 (0, 0))) : (w.cell? ⟨k, 0, none⟩ = some (.int .i64 m.kind) ∧ w.cell? ⟨k, 1, none⟩ = some (.int .i64 m.frm) ∧ w.cell? ⟨k, 2, none⟩ = some (.int .i64 m.dst) ∧ w.cell? ⟨k, 3, none⟩ = some (.int .i64 m.term) ∧ w.cell? ⟨k, 4, none⟩ = some (.int .i64 m.pi) ∧ w.cell? ⟨k, 5, none⟩ = some (.int .i64 m.pt) ∧ w.cell? ⟨k, 6, none⟩ = some (.slice m.ea m.en m.ec) ∧ w.cell? ⟨k, 7, none⟩ = some (.int .i64 m.commit) ∧ w.cell? ⟨k, 8, none⟩ = some (.bool m.ok) ∧ w.cell? ⟨k, 9, none⟩ = some (.int .i64 m.mtch) ∧ w.cell? ⟨k, 10, none⟩ = some (.int .i64 m.si) ∧ w.cell? ⟨k, 11, none⟩ = some (.int .i64 m.st) ∧ w.cell? ⟨k, 12, none⟩ = some (.string m.text)) ∧ (∀ j, w.frozen? ⟨k, j, none⟩ = false) ∧ k < w.heap.size :=
  ⟨⟨by rw [cell_at h]; rfl, by rw [cell_at h]; rfl, by rw [cell_at h]; rfl, by rw [cell_at h]; rfl, by rw [cell_at h]; rfl, by rw [cell_at h]; rfl, by rw [cell_at h]; rfl, by rw [cell_at h]; rfl, by rw [cell_at h]; rfl, by rw [cell_at h]; rfl, by rw [cell_at h]; rfl, by rw [cell_at h]; rfl, by rw [cell_at h]; rfl⟩, fun j => free_at h j, (Array.getElem?_eq_some_iff.1 h).1⟩
theorem sameE0 : sameE [] [] = true := rfl
theorem sameF0 (a b : Option Addr) (c d : Nat) : sameF (withE (withE m0 none 0 0) a 0 c) m0 = true := by
  simp [sameF, withE, m0, eqS, eqE]
set_option maxHeartbeats 8000000 in
set_option maxRecDepth 100000 in
theorem live_is (w : World) : Calls Try.prog 11 #[] w fun e w' => e = .returned (.bool true) ∧ Below w.heap.size w w' := by
  have HFR := hideIt (refFrame_any ⟨#[2, 1, 2, 3, 1]⟩ w)
  rw [show (⟨#[2, 1, 2, 3, 1]⟩ : ByteArray).data.toList = [2, 1, 2, 3, 1] from rfl, frm0, show frmE [2, 1, 2, 3, 1] = 0 from rfl] at HFR
  have HEN := hideIt (fun W => encode_is m0 [] W (fun i h => absurd h (by simp)) rfl)
  rw [enc0, encE0] at HEN
  have HDE := hideIt (fun W (hs : (⟨(frameL [2, 1, 2, 3, 1]).toArray⟩ : ByteArray).size ≤ maxLen) => decode_any ⟨(frameL [2, 1, 2, 3, 1]).toArray⟩ W hs)
  rw [show (⟨(frameL [2, 1, 2, 3, 1]).toArray⟩ : ByteArray).data.toList = frameL [2, 1, 2, 3, 1] from rfl, dec0] at HDE
  unfold DecBack at HDE
  have hsz : (⟨(frameL [2, 1, 2, 3, 1]).toArray⟩ : ByteArray).size ≤ maxLen := by
    show (frameL [2, 1, 2, 3, 1]).toArray.size ≤ maxLen
    rw [List.size_toArray, frameL_len]
    unfold maxLen
    decide
  have HSA := hideIt (fun (a : Option Addr) (c : Nat) W => same_any (withE (withE m0 none 0 0) a 0 c) m0 [] [] W (fun i h => absurd h (by simp)) (fun i h => absurd h (by simp)) rfl rfl (by simp))
  have HNW := hideIt (fun W => newNet_yes 2 W (by decide))
  generalize (⟨(frameL [2, 1, 2, 3, 1]).toArray⟩ : ByteArray) = T at *
  go_enter Try.func11, Try.ntmps11
  go_wp2_with fail
  refine HFR.out.mono ?_
  rintro e w1 ⟨rfl, hb⟩
  dsimp only
  have B1 := hideIt hb
  clear hb HFR
  have K2 := hideIt (heap_alloc_new w1 (.cells (msgC m0) 28))
  have B2 := hideIt (below_via B1.out (below1 w1 (.cells (msgC m0) 28)))
  clear B1
  have HAR := hideIt (show (#[.int .i64 2, .int .i64 1, .int .i64 2, .int .i64 3, .int .i64 0, .int .i64 0, .slice none 0 0, .int .i64 0, .bool true, .int .i64 0, .int .i64 0, .int .i64 0, .string ⟨#[]⟩] : Array Value) = msgC m0 from rfl)
  go_upto_region 3 with fail
  rw [HAR.out]
  generalize w1.alloc (.cells (msgC m0) 28) = W2 at *
  generalize w1.heap.size = k2 at *
  clear HAR
  obtain ⟨⟨ac0, ac1, ac2, ac3, ac4, ac5, ac6, ac7, ac8, ac9, ac10, ac11, ac12⟩, acf, acz⟩ := msg_at K2.out
  dsimp only [m0] at ac0 ac1 ac2 ac3 ac4 ac5 ac6 ac7 ac8 ac9 ac10 ac11 ac12
  go_wp2_with fail
  refine (HEN.out _).mono ?_
  rintro e w3 ⟨rfl, hb⟩
  dsimp only
  have K3 := hideIt (blkK K2.out hb)
  have B3 := hideIt (below_via B2.out hb)
  clear ac0 ac1 ac2 ac3 ac4 ac5 ac6 ac7 ac8 ac9 ac10 ac11 ac12 acf acz
  clear hb K2 B2 HEN
  go_wp2_with fail
  refine (HDE.out _ hsz).mono ?_
  rintro e w4 ⟨⟨da, dc, rfl, hro⟩, hb⟩
  dsimp only
  simp only [List.length_nil, msgC, withE, m0]
  have HAR := hideIt (show (#[.int .i64 2, .int .i64 1, .int .i64 2, .int .i64 3, .int .i64 0, .int .i64 0, .slice da 0 dc, .int .i64 0, .bool true, .int .i64 0, .int .i64 0, .int .i64 0, .string ⟨#[]⟩] : Array Value) = msgC (withE (withE m0 none 0 0) da 0 dc) from rfl)
  have hb5 := below1 w4 (.cells (msgC (withE (withE m0 none 0 0) da 0 dc)) 28)
  have K5 := hideIt (blkK K3.out (below_via hb hb5))
  have J5 := hideIt (heap_alloc_new w4 (.cells (msgC (withE (withE m0 none 0 0) da 0 dc)) 28))
  have B5 := hideIt (below_via B3.out (below_via hb hb5))
  clear hro hb hb5 K3 B3 HDE hsz
  go_upto_region 5 with fail
  rw [HAR.out]
  generalize w4.alloc (.cells (msgC (withE (withE m0 none 0 0) da 0 dc)) 28) = W5 at *
  generalize w4.heap.size = k5 at *
  clear HAR
  go_wp2_with fail
  refine (HNW.out _).mono ?_
  rintro e w6 ⟨rfl, rfl⟩
  dsimp only
  have hb6 := below2 W5 (.map #[] 0) (.cells (netC 2 (.slice none 0 0) W5.heap.size 0 0) 94)
  have K6 := hideIt (blkK K5.out hb6)
  have J6 := hideIt (blkK J5.out hb6)
  have N6 : Hid (NA W5.heap.size (W5.heap.size + 1) W5.heap.size 2 0 0 [] (.slice none 0 0) 0 f0 ((W5.alloc (.map #[] 0)).alloc (.cells (netC 2 (.slice none 0 0) W5.heap.size 0 0) 94))) := by
    refine ⟨(two_heap W5 _ _).2.1, own_nil _ _, ?_⟩
    exact (PM.made W5).keep (below1 _ _)
  have hB6 : W5.heap.size + 1 < ((W5.alloc (.map #[] 0)).alloc (.cells (netC 2 (.slice none 0 0) W5.heap.size 0 0) 94)).heap.size := by simp
  have B6 := hideIt (below_via B5.out hb6)
  have hwB := B5.out.size
  clear hb6 K5 J5 HNW B5
  go_upto_region 6 with fail
  generalize ((W5.alloc (.map #[] 0)).alloc (.cells (netC 2 (.slice none 0 0) W5.heap.size 0 0) 94)) = W6 at *
  generalize W5.heap.size = D at *
  obtain ⟨⟨ac0, ac1, ac2, ac3, ac4, ac5, ac6, ac7, ac8, ac9, ac10, ac11, ac12⟩, acf, acz⟩ := msg_at K6.out
  obtain ⟨⟨bc0, bc1, bc2, bc3, bc4, bc5, bc6, bc7, bc8, bc9, bc10, bc11, bc12⟩, bcf, bcz⟩ := msg_at J6.out
  dsimp only [m0, withE] at ac0 ac1 ac2 ac3 ac4 ac5 ac6 ac7 ac8 ac9 ac10 ac11 ac12 bc0 bc1 bc2 bc3 bc4 bc5 bc6 bc7 bc8 bc9 bc10 bc11 bc12
  go_wp2_with fail
  refine (HSA.out da dc _).mono ?_
  rintro e w7 ⟨rfl, hb⟩
  dsimp only
  rw [sameF0 da none dc 0, sameE0]
  have N7 := hideIt (N6.out.keep hb)
  have hB7 := Nat.lt_of_lt_of_le hB6 hb.size
  have B7 := hideIt (below_via B6.out hb)
  clear ac0 ac1 ac2 ac3 ac4 ac5 ac6 ac7 ac8 ac9 ac10 ac11 ac12 acf acz
  clear bc0 bc1 bc2 bc3 bc4 bc5 bc6 bc7 bc8 bc9 bc10 bc11 bc12 bcf bcz
  clear hb N6 K6 J6 HSA hB6 B6
  have HSN : Hid (Calls Try.prog 19 #[.pointer (some ⟨D + 1, 0, none⟩), .agg #[.int .i64 1, .int .i64 2, .string ⟨#[97]⟩]] w7 fun e w' => e = .returned (.int .i64 0) ∧ (∃ row', NA D (D + 1) D 2 1 0 [p0] row' 1 f1 w') ∧ Below D w7 w') := send_ok D (D + 1) D 2 0 0 [] (.slice none 0 0) 0 f0 p0 w7 N7.out (by omega) (by omega) (by omega) (by simp) (by omega) (fun x => by rw [pg0]; omega) (by omega) rfl rfl (by decide) (by simp)
  go_wp2_with fail
  refine HSN.out.mono ?_
  rintro e w8 ⟨rfl, ⟨row8, hN⟩, hb⟩
  dsimp only
  have N8 := hideIt hN
  have B8 := hideIt (B7.out.trans (hb.mono hwB))
  have hB8 := Nat.lt_of_lt_of_le hB7 hb.size
  clear hN hb N7 B7 hB7 HSN
  have HDB : Hid (Calls Try.prog 23 #[.pointer (some ⟨D + 1, 0, none⟩), .int .i64 0] w8 fun e w' => e = .returned (.int .i64 0) ∧ (∃ row', NA D (D + 1) D 2 1 0 [p0, p0] row' 2 f2 w') ∧ Below D w8 w') := double_ok D (D + 1) D 2 1 0 [p0] row8 1 f1 0 w8 N8.out (by omega) (by omega) (by omega) (by simp) (by omega) (fun x => by rw [pg1]; split <;> omega) (by simp) pok0 (by simp)
  go_wp2_with fail
  refine HDB.out.mono ?_
  rintro e w9 ⟨rfl, ⟨row9, hN⟩, hb⟩
  dsimp only
  have N9 := hideIt hN
  have B9 := hideIt (B8.out.trans (hb.mono hwB))
  clear hN hb N8 B8 hB8 HDB
  have HLN : Hid (Calls Try.prog 30 #[.pointer (some ⟨D + 1, 0, none⟩)] w9 fun e w' => e = .returned (.int .i64 2) ∧ Below w9.heap.size w9 w') := by
    have := len_is D (D + 1) D 2 1 0 [p0, p0] row9 2 f2 [p0] w9 N9.out (fun x => by rw [pg2]; split <;> omega) (by simp) (fun x p _ hp => by
      by_cases e : eqP x p0 = true
      · rw [eqP_eq e]
        exact List.mem_cons_self ..
      · exfalso
        unfold f2 f1 f0 updP at hp
        rw [if_neg e, if_neg e] at hp
        cases hp) (by simp) (fun x hx => by
      rw [List.mem_singleton] at hx
      subst hx
      refine ⟨pok0, pg f1 p0 + 1, ?_⟩
      unfold f2 updP
      rw [if_pos (eqP_self p0)])
    rw [len0] at this
    exact this
  go_wp2_with fail
  refine HLN.out.mono ?_
  rintro e w10 ⟨rfl, hb⟩
  dsimp only
  have B10 := hideIt (below_via B9.out hb)
  clear hb N9 B9 HLN
  go_wp2
  go_ret
  exact ⟨rfl, B10.out⟩
end Go.Proofs.Ytagfolckodpioaa.K2
