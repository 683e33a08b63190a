/- What a wheel's Stop and Set answer and leave. -/
import Derived.Test.YtebinckkghmkhaaDrop
namespace Go.Proofs.Ytebinckkghmkhaa
open Go.RowKit

def stopE (S : Wh) (key : Int) : Nat := if 0 ≤ key ∧ key < (S.keys : Int) then 0 else 1
def stopW (S : Wh) (key : Int) : Wh := if 0 ≤ key ∧ key < (S.keys : Int) then dropS S key.toNat else S
set_option maxHeartbeats 1000000 in
theorem stop_is {w : World} {F : Nat → Prop} {p : Nat} {S : Wh} (h : WheelAt w F p S) (key : Int) (hN : S.now < 1000000000) :
    Calls Try.prog 11 #[.pointer (some ⟨p, 0, none⟩), .int .i64 key] w fun e w' => e = .returned (.int .i64 (stopE S key : Int)) ∧ WheelAt w' F p (stopW S key) ∧ Out F w w' := by
  have H := hideIt (has_is h key)
  unfold stopE stopW
  by_cases h0 : 0 ≤ key ∧ key < (S.keys : Int)
  · rw [decide_eq_true h0] at H
    rw [if_pos h0, if_pos h0]
    obtain ⟨k, rfl⟩ := Int.eq_ofNat_of_zero_le h0.1
    rw [Int.toNat_natCast] at *
    have HD := hideIt (drop_is h k (by omega) hN)
    clear h h0
    go_enter Try.func11, Try.ntmps11
    go_wp2_with fail
    refine H.out.mono ?_
    rintro e w1 ⟨rfl, rfl⟩
    dsimp only
    go_wp2_with fail
    refine HD.out.mono ?_
    rintro e w2 ⟨⟨v, rfl⟩, hw, ho⟩
    dsimp only
    go_wp2
    go_ret
    exact ⟨rfl, hw, ho⟩
  · rw [decide_eq_false h0] at H
    rw [if_neg h0, if_neg h0]
    have HH := hideIt h
    clear h h0
    go_enter Try.func11, Try.ntmps11
    go_wp2_with fail
    refine H.out.mono ?_
    rintro e w1 ⟨rfl, rfl⟩
    dsimp only
    go_wp2
    go_ret
    exact ⟨rfl, HH.out, Out.refl _ _⟩
/-- An append whose run is known, as a step of a region that draws. -/
theorem step_run {ops : Array Oper} {o : Oper} {a : Act} {w : World} {K : Act → World → Prop} {Q : Exit → Act → World → Prop} {E : Prop}
    (hg : o.guard = none) (s x : Operand) (t ty : TypeId) (hop : o.op = Op.call { callee := Callee.builtin Builtin.append, args := #[s, x], argTypes := #[t, t] }) (hty : o.type = ty) {v1 v2 v' : Value} {w' : World} (hs : a.eval s = v1) (hx : a.eval x = v2)
    (hrun : (Builtin.append_ #[t, t] ty #[v1, v2]).run Try.prog w = .ok v' w') (hK : K (a.put o.dst v') w') : if Region.wanted o (yielded ops a.tmps) = true then Oper.wp Try.prog o a w K Q else E := by
  have hw : Region.wanted o (yielded ops a.tmps) = true := by simp [Region.wanted, hg]
  rw [if_pos hw]
  subst hty
  unfold Oper.wp
  simp [execOp, hop, resolve, invoke, builtin, hs, hx, hrun, Result.andThen]
  exact hK
@[reducible] def setOk (S : Wh) (key after : Int) : Prop := (0 ≤ key ∧ key < (S.keys : Int)) ∧ 1 ≤ after ∧ after ≤ 1000
def setE (S : Wh) (key after : Int) : Nat := if setOk S key after then 0 else 1
def setW (S : Wh) (key after : Int) : Wh := if setOk S key after then setS S key.toNat after.toNat else S
set_option maxHeartbeats 1000000 in
theorem set_bad {w : World} {F : Nat → Prop} {p : Nat} {S : Wh} (h : WheelAt w F p S) (key after : Int) (hb : ¬ setOk S key after) :
    Calls Try.prog 9 #[.pointer (some ⟨p, 0, none⟩), .int .i64 key, .int .i64 after] w fun e w' => e = .returned (.int .i64 1) ∧ w' = w := by
  have H := hideIt (has_is h key)
  by_cases h0 : 0 ≤ key ∧ key < (S.keys : Int)
  · rw [decide_eq_true h0] at H
    have hb2 : after < 1 ∨ 1000 < after := by
      unfold setOk at hb
      have := fun e => hb ⟨h0, e⟩
      omega
    clear h h0 hb
    by_cases h1 : after < 1
    · clear hb2
      go_enter Try.func9, Try.ntmps9
      go_wp2_with fail
      refine H.out.mono ?_
      rintro e w1 ⟨rfl, rfl⟩
      dsimp only
      go_wp2
      go_ret
      exact ⟨rfl, rfl⟩
    · have h2 : 1000 < after := by omega
      clear hb2
      go_enter Try.func9, Try.ntmps9
      go_wp2_with fail
      refine H.out.mono ?_
      rintro e w1 ⟨rfl, rfl⟩
      dsimp only
      go_wp2
      go_ret
      exact ⟨rfl, rfl⟩
  · rw [decide_eq_false h0] at H
    clear h h0 hb
    go_enter Try.func9, Try.ntmps9
    go_wp2_with fail
    refine H.out.mono ?_
    rintro e w1 ⟨rfl, rfl⟩
    dsimp only
    go_wp2
    go_ret
    exact ⟨rfl, rfl⟩
theorem put_dueOf2 (S : Wh) (k n : Nat) (h : 1 ≤ n) : put (dueOf S.now S.left) k (S.now + n) = dueOf (setS S k n).now (setS S k n).left := by
  funext i
  simp only [put, setS, dueOf]
  by_cases e : i = k
  · simp [e]
    omega
  · simp [e]
theorem set_drop (S : Wh) (k n : Nat) : setS (dropS S k) k n = setS S k n := by
  unfold setS dropS put
  simp only [Wh.mk.injEq, true_and]
  funext i
  split <;> simp_all
set_option maxHeartbeats 4000000 in
set_option maxRecDepth 100000 in
theorem set_ok {w : World} {F : Nat → Prop} {p : Nat} {S : Wh} (h : WheelAt w F p S) (k n : Nat) (hk : k < S.keys) (h1 : 1 ≤ n) (h2 : n ≤ 1000) (hN : S.now < 1000000000) :
    Calls Try.prog 9 #[.pointer (some ⟨p, 0, none⟩), .int .i64 (k : Int), .int .i64 (n : Int)] w fun e w' => e = .returned (.int .i64 0) ∧ (∃ F', WheelAt w' F' p (setS S k n) ∧ ∀ i, F' i → F i ∨ w.heap.size ≤ i) ∧ Out F w w' := by
  have H := hideIt (has_is h k)
  rw [decide_eq_true (show 0 ≤ (k : Int) ∧ (k : Int) < (S.keys : Int) by omega)] at H
  have HD := hideIt (drop_is h k hk hN)
  have hsm := h.small
  have hpF : F p := by obtain ⟨_, _, _, hm, _⟩ := h; exact hm.inp
  have hk1 : k < 100 := by obtain ⟨_, _, _, hm, hg⟩ := h; have := hg.most; omega
  have hp : p < w.heap.size := hsm p hpF
  have hk0 : (0 : Int) ≤ (k : Int) := by omega
  have hk2 : (k : Int) < 100 := by omega
  clear h
  go_enter Try.func9, Try.ntmps9
  go_wp2_with fail
  refine H.out.mono ?_
  rintro e w1 ⟨rfl, rfl⟩
  dsimp only
  go_wp2_with fail
  refine HD.out.mono ?_
  rintro e w2 ⟨⟨v, rfl⟩, hw, ho⟩
  dsimp only
  have hs2 := ho.size
  obtain ⟨L, sb, cs, hm, hg⟩ := hw
  have c1 : w2.cell? ⟨p, 1, none⟩ = some (.int .i64 (S.now : Int)) := by rw [cell_at hm.cells]; exact hm.c1
  have cd : ∃ v, w2.cell? ⟨p, 1002 + k, none⟩ = some v := by rw [cell_at hm.cells]; exact ⟨_, hm.cdue k hk1⟩
  obtain ⟨dv, cd⟩ := cd
  have fd : w2.frozen? ⟨p, 1002 + k, none⟩ = false := free_at hm.cells _
  have HM := hideIt hm
  have HG := hideIt hg
  have HO := hideIt ho
  generalize hnow : S.now = t at *
  have HT := hideIt hnow
  have hle : t + n < 4611686018427387904 := by omega
  have HS := hideIt (fun W => slotOf_is (t + n) W hle)
  clear hm hg ho H HD hnow
  go_wp2
  go_region
  obtain ⟨d, hd⟩ : ∃ d, d = t + n := ⟨_, rfl⟩
  have hm3 : Mem (w2.setCell ⟨p, 1002 + k, none⟩ (.int .i64 ((t : Int) + (n : Int)))).drew F p S.keys t (put (dueOf t (dropS S k).left) k d) L sb (cs.setIfInBounds (1002 + k) (.int .i64 (d : Int))) := by
    have := HM.out.setDue k d hk1
    rw [hd] at this ⊢
    rw [← HT.out] at this ⊢
    exact this.keep (Nat.le_refl _) (fun _ _ _ => rfl)
  have o3 : Out F w1 (w2.setCell ⟨p, 1002 + k, none⟩ (.int .i64 ((t : Int) + (n : Int)))).drew := (HO.out.trans (Out.ofSet (F := F) _ ⟨p, 1002 + k, none⟩ _ hpF) (fun _ _ h => h)).trans (Out.ofDrew (F := F) _) (fun _ _ h => h)
  generalize (w2.setCell ⟨p, 1002 + k, none⟩ (.int .i64 ((t : Int) + (n : Int)))).drew = W3 at *
  rw [← hd] at HS
  have HDD := hideIt hd
  clear hd HM HO cd c1 fd
  have cd3 : W3.cell? ⟨p, 1002 + k, none⟩ = some (.int .i64 (d : Int)) := by
    rw [cell_at hm3.cells, hm3.cdue k hk1]; simp [put]
  have hgm := HG.out.set k n (by simp [dropS, put]) hk h1 h2
  have hnd : (dropS S k).now + n = d := by rw [HDD.out]; show S.now + n = t + n; rw [HT.out]
  rw [hnd] at hgm
  clear hnd
  have ha : d % 1000 < 1000 := Nat.mod_lt _ (by decide)
  generalize haa : d % 1000 = a at *
  clear haa
  have ha0 : (0 : Int) ≤ (a : Int) := by omega
  have ha1 : (a : Int) < 1000 := by omega
  have hlen := HG.out.len a ha
  have cs3 : W3.cell? ⟨p, 2 + a, none⟩ = some (sval (L a) (sb a)) := by rw [cell_at hm3.cells]; exact hm3.cslot a ha
  have hs3 := hm3.small p hm3.inp
  have hsz3 := o3.size
  obtain ⟨W4, hW4⟩ : ∃ W4, W4 = W3.drew.alloc (.cells #[.int .i64 (k : Int)] 3) := ⟨_, rfl⟩
  have r4 : SRow W4 (L a) (sb a) := (hm3.rows a ha).keep (fun g c e => by rw [hW4]; exact Lib.alloc_old W3.drew _ g (hm3.small g (hm3.own a ha g c e).1))
  have b4 : W4.cell? ⟨W3.heap.size, 0, none⟩ = some (iv k) := by rw [hW4]; exact cell_at (heap_alloc_new W3.drew _) 0
  obtain ⟨g', cap', W5, hrun, hrow, ho5, hg5⟩ := run_append_S W4 36 (sb a) (L a) r4 W3.heap.size 1 k b4 (by omega)
  have hp5 : W5.heap[p]? = W3.heap[p]? := by
    rw [ho5.block p (by rw [hW4]; simp; omega) (fun ⟨c, e⟩ => (hm3.own a ha p c e).2 rfl), hW4]
    exact Lib.alloc_old W3.drew _ p hs3
  have c5 : W5.cell? ⟨p, 2 + a, none⟩ = some (sval (L a) (sb a)) := by rw [cell_at (hp5.trans hm3.cells)]; exact hm3.cslot a ha
  have f5 : W5.frozen? ⟨p, 2 + a, none⟩ = false := free_at (hp5.trans hm3.cells) _
  have o45 : Out (fun i => ∃ c, sb a = some (i, c)) W3 W5 := by
    refine Out.trans ?_ ho5 (fun _ _ h => h)
    rw [hW4]
    exact (Out.ofDrew W3).trans (Out.ofAlloc (F := fun i => ∃ c, sb a = some (i, c)) _ _) (fun _ _ h => h)
  have hs45 : W3.heap.size ≤ W4.heap.size := by rw [hW4]; simp
  have hm6 := hm3.setSlot a ha (L a ++ [k]) (some (g', cap')) o45 hrow (fun g c e => by
    cases e
    rcases hg5 with h | h
    · exact .inl h
    · exact .inr (by omega))
  have o6 : Out F w1 (W5.setCell ⟨p, 2 + a, none⟩ (sval (L a ++ [k]) (some (g', cap')))) :=
    (o3.trans o45 (fun i _ ⟨c, e⟩ => (hm3.own a ha i c e).1)).trans (Out.ofSet (F := F) _ _ _ hpF) (fun _ _ h => h)
  have hF6 : ∀ i, (F i ∨ ∃ c, some (g', cap') = some (i, c)) → F i ∨ w1.heap.size ≤ i := by
    rintro i (hi | ⟨c, e⟩)
    · exact .inl hi
    · cases e
      rcases hg5 with ⟨c', h⟩ | h
      · exact .inl (hm3.own a ha g' c' h).1
      · exact .inr (by omega)
  have HM6 := hideIt hm6
  have HO6 := hideIt o6
  have HF6 := hideIt hF6
  have HGM := hideIt hgm
  rw [hW4] at hrun
  obtain ⟨m, hv1⟩ : ∃ m, sval (L a ++ [k]) (some (g', cap')) = .slice (some ⟨g', 0, none⟩) m cap' := ⟨_, rfl⟩
  rw [hv1] at hrun HM6 HO6
  have HR := hideIt hrun
  clear hv1
  generalize hv0 : sval (L a) (sb a) = v0 at *
  clear hm3 hm6 o3 o6 hF6 hgm hrun hrow ho5 hg5 hp5 o45 r4 b4 hW4 HG
  go_wp2_with fail
  refine (HS.out _).mono ?_
  rintro e w6 ⟨rfl, rfl⟩
  dsimp only
  go_wp2
  go_region_law (refine step_run rfl _ _ 36 36 rfl rfl rfl rfl HR.out ?_)
  all_goals
    go_wp2
    go_ret
    have h7 := HGM.out
    rw [set_drop] at h7
    have h6 := HM6.out
    have e := put_dueOf2 (dropS S k) k n h1
    rw [set_drop] at e
    have e2 : put (dueOf t (dropS S k).left) k d = dueOf (setS S k n).now (setS S k n).left := by
      rw [← e, HDD.out, ← HT.out]; rfl
    rw [e2, ← HT.out] at h6
    exact ⟨rfl, ⟨_, ⟨_, _, _, h6, h7⟩, HF6.out⟩, HO6.out⟩
theorem set_is {w : World} {F : Nat → Prop} {p : Nat} {S : Wh} (h : WheelAt w F p S) (key after : Int) (hN : S.now < 1000000000) :
    Calls Try.prog 9 #[.pointer (some ⟨p, 0, none⟩), .int .i64 key, .int .i64 after] w fun e w' => e = .returned (.int .i64 (setE S key after : Int)) ∧ (∃ F', WheelAt w' F' p (setW S key after) ∧ ∀ i, F' i → F i ∨ w.heap.size ≤ i) ∧ Out F w w' := by
  unfold setE setW
  by_cases h0 : setOk S key after
  · rw [if_pos h0, if_pos h0]
    unfold setOk at h0
    obtain ⟨k, rfl⟩ := Int.eq_ofNat_of_zero_le h0.1.1
    obtain ⟨n, rfl⟩ := Int.eq_ofNat_of_zero_le (show 0 ≤ after by omega)
    exact set_ok h k n (by omega) (by omega) (by omega) hN
  · rw [if_neg h0, if_neg h0]
    refine (set_bad h key after h0).mono ?_
    rintro e w' ⟨rfl, rfl⟩
    exact ⟨rfl, ⟨F, h, fun _ h => .inl h⟩, Out.refl _ _⟩
end Go.Proofs.Ytebinckkghmkhaa
