/- slices.Delete of one order. -/
import Derived.Test.YtiinigifjdpicaaGreatDoorInsX
namespace Go.Proofs.YtiinigifjdpicaaGreatDoor
open Go.RowKit
set_option linter.all false
theorem wpList_clear_runK (w : World) {ops : Array Oper} {rest : List Oper} {o : Oper} {a : Act} {Q : Exit → Act → World → Prop} (hgd : o.guard = none) (d : Operand) (t : TypeId)
    (ho : o.op = .call { callee := .builtin .clear, args := #[d], argTypes := #[t] }) (v : Value) (hd : a.eval d = v) {v' : Value} {w' : World}
    (hr : (Builtin.clear_ #[t] o.type #[v]).run Tryz.prog w = .ok v' w') (h : wpList Tryz.prog ops Q rest (a.put o.dst v') w') : wpList Tryz.prog ops Q (o :: rest) a w := by
  refine wpList_plain hgd fun K hK => ?_
  unfold Oper.wp execOp
  simp only [ho, resolve, invoke, builtin, Sem.run_bind, Sem.run_pure, Result.andThen_ok, List.map_toArray, List.map_cons, List.map_nil, hd, hr]
  exact hK _ _ h
def z4 : List Value := [.int .i64 0, .int .i64 0, .int .i64 0, .int .i64 0]
theorem run_clear4 (w : World) (ty : TypeId) (g o cc n : Nat) (cur : Array Value) (hn : n = 1) (hg : w.heap[g]? = some (.cells cur 115 (0, 0))) (hfit : o + 4 ≤ cur.size) :
    (Builtin.clear_ #[56] ty #[.slice (some ⟨g, o, none⟩) n cc]).run Tryz.prog w = .ok (.tuple #[]) (w.setRow g (cur.toList.take o ++ z4 ++ cur.toList.drop (o + 4)).toArray) := by
  subst hn
  have hst := run_storeCells_at Tryz.prog g o 115 z4 0 cur w hg (by simpa [z4] using hfit) (by intro v hv; simp only [z4, List.mem_cons, List.not_mem_nil, or_false] at hv; rcases hv with rfl | rfl | rfl | rfl <;> rfl)
  have hz : (Builtin.zeroCells (Value.agg #[.int .i64 0, .int .i64 0, .int .i64 0, .int .i64 0]).cells 1).toList = z4 := by simp [Builtin.zeroCells, Value.cells, z4, Array.range, List.range, List.range.loop]
  simp [Builtin.clear_, run_underlying Tryz.underlying56, Tryz.zeroValue115, hz, hst]
  rfl
set_option maxHeartbeats 8000000 in
set_option maxRecDepth 100000 in
theorem del_at (g c i i1 : Nat) (cur : Array Value) (l : List OrdV) (w : World) (hi1 : i1 = i + 1) (hg : w.heap[g]? = some (.cells cur 115 (0, 0))) (hs : cur.size = c * 4) (ht : cur.toList.take (l.length * 4) = celC ordE l) (hi : i < l.length) (hnc : l.length ≤ c) (hc : c ≤ maxLen) :
    Calls Tryz.prog 141 #[.slice (some ⟨g, 0, none⟩) l.length c, .int .i64 i, .int .i64 i1] w fun e w' => e = .returned (.slice (some ⟨g, 0, none⟩) (l.length - 1) c) ∧ ∃ R : Array Value, w' = w.drew.setRow g R ∧ R.size = c * 4 ∧ R.toList.take ((l.length - 1) * 4) = celC ordE (l.take i ++ l.drop i1) := by
  unfold maxLen at hc
  obtain ⟨n, hn⟩ : ∃ n, n = l.length := ⟨_, rfl⟩
  obtain ⟨m1, hm1⟩ : ∃ m1, m1 = i + (n - i1) := ⟨_, rfl⟩
  have hsz : (Tryz.prog.info? 115).map (·.size) = some 4 := by kernel_rfl
  have hA : (celC ordE (l.take i)).length = i * 4 := by rw [celC_len ordK, List.length_take, Nat.min_eq_left (by omega)]
  have hD : (celC ordE (l.drop i1)).length = (l.length - i1) * 4 := by rw [celC_len ordK, List.length_drop]
  obtain ⟨T, hT⟩ : ∃ T, cur.toList = celC ordE (l.take i1) ++ celC ordE (l.drop i1) ++ T := ⟨cur.toList.drop (l.length * 4), by rw [← celC_app, List.take_append_drop, ← ht, List.take_append_drop]⟩
  have hA1 : (celC ordE (l.take i1)).length = i1 * 4 := by rw [celC_len ordK, List.length_take, Nat.min_eq_left (by omega)]
  obtain ⟨i0, hi0, hz0, hz1, hz2⟩ := info_parts info36
  obtain ⟨R1, hR1⟩ : ∃ R1 : Array Value, R1 = (cur.toList.take (i * 4) ++ celC ordE (l.drop i1) ++ cur.toList.drop (i * 4 + (celC ordE (l.drop i1)).length)).toArray := ⟨_, rfl⟩
  have hR1s : R1.size = c * 4 := by
    rw [hR1]
    simp only [List.size_toArray, List.length_append, List.length_take, List.length_drop, Array.length_toList, hD, hs]
    omega
  have hg1 : (w.drew.setRow g R1).heap[g]? = some (.cells R1 115 (0, 0)) := setRow_heap _ g cur _ 115 _ hg
  have happ : ∀ (ad : Addr) (cc : Nat) (hsrc : ∀ j v, (celC ordE (l.drop i1))[j]? = some v → w.drew.cell? (ad.add j) = some v) ty, (Builtin.append_ #[56, 56] ty #[.slice (some ⟨g, 0, none⟩) i c, .slice (some ad) (n - i1) cc]).run Tryz.prog w.drew = .ok (.slice (some ⟨g, 0, none⟩) m1 c) (w.drew.setRow g R1) := fun ad cc hsrc ty => by
    have := run_append_room (P := Tryz.prog) w.drew 56 ty 115 i0 Tryz.underlying56 hi0 g i c cur hg ad (n - i1) cc (celC ordE (l.drop i1)) (by rw [hz1, hD, hn]) hsrc (celC_one ord1 _) (by omega) (by rw [hz1, hD, hs]; omega)
    rw [hz1] at this
    rw [this, hm1, hR1]
  obtain ⟨R2, hR2⟩ : ∃ R2 : Array Value, R2 = (R1.toList.take (m1 * 4) ++ z4 ++ R1.toList.drop (m1 * 4 + 4)).toArray := ⟨_, rfl⟩
  have hcl : ∀ ty cc, (Builtin.clear_ #[56] ty #[.slice (some ⟨g, m1 * 4, none⟩) (n - m1) cc]).run Tryz.prog (w.drew.setRow g R1) = .ok (.tuple #[]) (w.drew.setRow g R2) := fun ty cc => by
    have := run_clear4 (w.drew.setRow g R1) ty g (m1 * 4) cc (n - m1) R1 (by omega) hg1 (by rw [hR1s]; omega)
    rw [this, setRow_setRow, hR2]
  have HRES : Hid (∃ R : Array Value, w.drew.setRow g R2 = w.drew.setRow g R ∧ R.size = c * 4 ∧ R.toList.take (m1 * 4) = celC ordE (l.take i ++ l.drop i1)) := by
    refine ⟨R2, rfl, ?_, ?_⟩
    · rw [hR2]
      simp only [List.size_toArray, List.length_append, List.length_take, List.length_drop, Array.length_toList, hR1s, z4, List.length_cons, List.length_nil]
      omega
    · have hl1 : (R1.toList.take (m1 * 4)).length = m1 * 4 := by rw [List.length_take, Array.length_toList, hR1s]; omega
      have hl2 : (celC ordE (l.take i) ++ celC ordE (l.drop i1)).length = m1 * 4 := by rw [List.length_append, hA, hD]; omega
      have hcA : cur.toList.take (i * 4) = celC ordE (l.take i) := by
        rw [← celC_take ordK l i, ← ht, List.take_take, Nat.min_eq_left (by omega)]
      rw [hR2]
      simp only [List.toList_toArray]
      rw [List.append_assoc, List.take_append_of_le_length (by omega), List.take_take, Nat.min_self, celC_app, hR1]
      simp only [List.toList_toArray]
      rw [hcA, List.take_left' hl2]
  have hb0 : (0 : Int) ≤ (i : Int) ∧ (i : Int) ≤ (i1 : Int) ∧ (i1 : Int) ≤ (n : Int) ∧ (n : Int) ≤ (c : Int) ∧ ¬ ((i : Int) = (i1 : Int)) := by omega
  obtain ⟨hb0, hb1, hb2, hb3, hb4⟩ := hb0
  have hb5 : (0 : Int) ≤ (m1 : Int) ∧ (m1 : Int) ≤ (n : Int) ∧ (i : Int) ≤ (c : Int) ∧ (0 : Int) ≤ (i1 : Int) ∧ (0 : Int) ≤ (n : Int) := by omega
  obtain ⟨hb5, hb6, hb7, hb8, hb9⟩ := hb5
  have hb10 : ¬ (n = i) := by omega
  have hb11 : ¬ (c = m1) := by omega
  have mixed : Tryz.prog.follows Departure.mixedOrders = true := by kernel_rfl
  rw [show l.length - 1 = m1 by omega, ← hn]
  by_cases hci : c = i1
  · have hap := happ ⟨g, 0, none⟩ 0 (fun j v hj => by
      rw [List.drop_of_length_le (by omega)] at hj
      simp [celC] at hj)
    have hn0 : n - i1 = 0 := by omega
    rw [hn0] at hap
    have hn0I : n = i1 := by omega
    clear happ hR2 hR1 hR1s hg1 hA hD hA1 hT hi0 hz0 hz1 hz2 hsz hs hg ht hi hnc hc hn hm1 hn0 hi1
    subst hn0I
    subst hci
    go_enter Tryz.func141, Tryz.ntmps141
    go_wp2_with fail
    go_region_law_o (refine step_app_runK rfl _ _ 56 56 rfl (.slice (some ⟨g, 0, none⟩) i c) (.slice (some ⟨g, 0, none⟩) 0 0) (by simp [Act.eval, Act.put]) (by simp [Act.eval, Act.put]) (hap _) ?_)
    go_wp2_with (at_builtin; refine wpList_clear_runK _ rfl _ 56 rfl _ rfl (hcl _ _) ?_)
    go_ret
    exact ⟨rfl, HRES.out⟩
  · have hap := happ ⟨g, i1 * 4, none⟩ (c - i1) (fun j v hj => by
      have hjl := (List.getElem?_eq_some_iff.1 hj).1
      rw [addN, cell_at (w := w.drew) hg, ← Array.getElem?_toList, hT, List.append_assoc, List.getElem?_append_right (by omega), hA1, Nat.add_sub_cancel_left, List.getElem?_append_left hjl, hj])
    clear happ hR2 hR1 hR1s hg1 hA hD hA1 hT hi0 hz0 hz1 hz2 hsz hs hg ht hi hnc hc hn hm1 hi1
    go_enter Tryz.func141, Tryz.ntmps141
    go_wp2_with fail
    go_region_law_o (refine step_app_runK rfl _ _ 56 56 rfl (.slice (some ⟨g, 0, none⟩) i c) (.slice (some ⟨g, i1 * 4, none⟩) (n - i1) (c - i1)) (by simp [Act.eval, Act.put]) (by simp [Act.eval, Act.put]) (hap _) ?_)
    go_wp2_with (at_builtin; refine wpList_clear_runK _ rfl _ 56 rfl _ rfl (hcl _ _) ?_)
    go_ret
    exact ⟨rfl, HRES.out⟩
/-- slices.Delete of one, from a list of the call's own. -/
theorem deleteO_is (B i i1 : Nat) (hi1 : i1 = i + 1) (v : Value) (l : List OrdV) (w : World) (ho : w.ownsRow B 115 4 v l.length (celC ordE l)) (hi : i < l.length) :
    Calls Tryz.prog 141 #[v, .int .i64 i, .int .i64 i1] w fun e w' => ∃ v', e = .returned v' ∧ w'.ownsRow B 115 4 v' (l.take i ++ l.drop i1).length (celC ordE (l.take i ++ l.drop i1)) ∧ w.grownBy w' v.ownBlock ∧ v'.ownBlock = v.ownBlock := by
  have hlen : (l.take i ++ l.drop i1).length = l.length - 1 := by
    rw [List.length_append, List.length_take, List.length_drop]
    omega
  rcases ho.2 with ⟨_, h2⟩ | ⟨g, cap, cur, rfl, hg0, hg, hn, hc, hs, ht⟩
  · omega
  · refine (del_at g cap i i1 cur l w hi1 hg hs ht hi hn hc).mono ?_
    rintro e w' ⟨rfl, R, rfl, hR1, hR2⟩
    refine ⟨_, rfl, ?_, ?_, rfl⟩
    · rw [hlen]
      exact ⟨by rw [celC_len ordK, hlen], .inr ⟨g, cap, R, rfl, hg0, setRow_heap _ g cur _ 115 _ hg, by omega, hc, hR1, hR2⟩⟩
    · exact ⟨rfl, rfl, rfl, by simp [World.setRow], fun k _ hk => setRow_other _ g k _ (fun e => hk (by rw [e]; rfl))⟩
end Go.Proofs.YtiinigifjdpicaaGreatDoor
