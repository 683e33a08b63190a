/- One that holds and waits for nothing: the walk. -/
import Derived.Test.YtgfpeknhabbkbabEnP
import Derived.Test.YtgfpeknhabbkbabAskP
namespace Go.Proofs.Ytgfpeknhabbkbab
open Go.RowKit
set_option linter.all false
def fdT (l : List HoldV) (p : HoldV → Bool) : TxnV := match l.find? p with | some h => h.2 | none => zT
theorem fd_hit {l : List HoldV} {t : Nat} {p : HoldV → Bool} (h : t < l.length) (hp : p l[t] = true) : fdT (l.drop t) p = l[t].2 := by
  unfold fdT
  rw [List.drop_eq_getElem_cons h, List.find?_cons_of_pos (p := p) hp]
theorem fd_miss {l : List HoldV} {t : Nat} {p : HoldV → Bool} (h : t < l.length) (hp : p l[t] = false) : fdT (l.drop t) p = fdT (l.drop (t + 1)) p := by
  unfold fdT
  rw [List.drop_eq_getElem_cons h, List.find?_cons_of_neg (p := p) (by simp [hp])]
set_option maxHeartbeats 8000000 in
set_option maxRecDepth 100000 in
theorem idle_is (T : TabV) (h v : Value) (w : World) (hT : Tab w T h v) : Calls Try.prog 6 #[.agg #[h, v]] w fun e w' => e = .returned (.agg #[.int .i64 (idleL T).1, .int .i64 (idleL T).2]) ∧ Below w.heap.size w w' := by
  obtain ⟨a, c, rfl, h8, hr⟩ := hT.held.hols
  obtain ⟨va, vc, rfl, v8, vr⟩ := hT.wait.hols
  have HH := hideIt hr
  have VH := hideIt vr
  clear hr vr hT
  have X0 := hideIt (Bx.first w [.cells #[.slice a T.held.length c, .slice va T.wait.length vc] 25, .cells #[.int .i64 0, .int .i64 0] 29])
  simp only [List.foldl_cons, List.foldl_nil] at X0
  have HI : Hid (idleL T = fdT T.held (fun h => !(idleB T h))) := rfl
  have HB : Hid (∀ h, idleB T h = T.wait.any (fun x => x.2 == h.2)) := fun h => rfl
  generalize idleL T = RES at *
  generalize idleB T = p at *
  go_enter Try.func6, Try.ntmps6
  go_upto_region 2 with fail
  go_loopw [3] (fun v wr => ∃ t : Nat, v = .int .i64 t ∧ t ≤ T.held.length ∧ Hid (Bx w [.cells #[.slice a T.held.length c, .slice va T.wait.length vc] 25, .cells #[.int .i64 0, .int .i64 0] 29] wr ∧ fdT T.held (fun h => !(p h)) = fdT (T.held.drop t) (fun h => !(p h)))) (fun v _ => T.held.length - (intOf v).toNat)
  case atStart => exact ⟨0, rfl, Nat.zero_le _, hideIt ⟨X0.out, by simp⟩⟩
  case round =>
    clear X0
    obtain ⟨t, rfl, ht, HR⟩ := hrel
    have X := hideIt HR.out.1
    have x0 : wr.cell? ⟨w.heap.size, 0, none⟩ = some (.slice a T.held.length c) := X.out.c 0 0 rfl rfl
    have x1 : wr.cell? ⟨w.heap.size, 1, none⟩ = some (.slice va T.wait.length vc) := X.out.c 0 1 rfl rfl
    have hs := X.out.size
    simp only [List.length_cons, List.length_nil] at hs
    have xl : w.heap.size < wr.heap.size := by omega
    by_cases hlt : t < T.held.length
    · have hltI : (t : Int) < (T.held.length : Int) := by omega
      have ht0 : (0 : Int) ≤ (t : Int) := by omega
      have hw : IntKind.i64.wrap ((t : Int) + 1) = ((t + 1 : Nat) : Int) := by rw [IntKind.wrap_i64]; omega
      have hB := X.out.bel
      obtain ⟨b, off, rfl, hbl, q0, q1, q2, q3⟩ := HH.out t hlt
      have hblr : b < wr.heap.size := Nat.lt_of_lt_of_le hbl hB.size
      have c0 := (hB.cell (p := ⟨b, off + t * 4, none⟩) hbl).trans q0
      have c1 := (hB.cell (p := ⟨b, off + t * 4 + 1, none⟩) hbl).trans q1
      have c2 := (hB.cell (p := ⟨b, off + t * 4 + 2, none⟩) hbl).trans q2
      have c3 := (hB.cell (p := ⟨b, off + t * 4 + 3, none⟩) hbl).trans q3
      clear q0 q1 q2 q3
      have HP := hideIt (HB.out T.held[t])
      have HF0 : Hid (p T.held[t] = true → fdT T.held (fun h => !(p h)) = fdT (T.held.drop (t + 1)) (fun h => !(p h))) := fun hq => HR.out.2.trans (fd_miss hlt (by simp [hq]))
      have HF1 : Hid (p T.held[t] = false → fdT T.held (fun h => !(p h)) = T.held[t].2) := fun hq => HR.out.2.trans (fd_hit hlt (by simp [hq]))
      clear HR HH HB hB
      generalize p T.held[t] = pv at *
      generalize T.held[t] = en at *
      obtain ⟨⟨p0, p1⟩, ⟨p2, p3⟩⟩ := en
      dsimp only at c0 c1 c2 c3 HP HF1
      have Y : Hid (wr.cell? ⟨b, off + t * 4 + 2, none⟩ = some (.int .i64 p2) ∧ wr.cell? ⟨b, off + t * 4 + 3, none⟩ = some (.int .i64 p3)) := ⟨c2, c3⟩
      clear c0 c1 c2 c3
      go_upto_region 6 with fail
      clear x0 x1
      obtain ⟨W6, hW6⟩ : ∃ W6, W6 = wr := ⟨_, rfl⟩
      subst hW6
      go_loopw [4, 5] (fun v9 v10 wi => ∃ (j : Nat) (fd : Bool), v9 = .bool fd ∧ v10 = .int .i64 j ∧ j ≤ T.wait.length ∧ Hid (Below W6.heap.size W6 wi ∧ fd = (T.wait.take j).any (fun y => y.2 == (p2, p3)))) (fun _ v _ => T.wait.length - (intOf v).toNat)
      case atStart => exact ⟨0, false, rfl, rfl, Nat.zero_le _, hideIt ⟨Below.refl _ _, by simp⟩⟩
      case round =>
        obtain ⟨j, fd, rfl, rfl, hj, HJ⟩ := hrel
        have XJ := hideIt (X.out.keep HJ.out.1)
        have x0 : wr.cell? ⟨w.heap.size, 0, none⟩ = some (.slice (some ⟨b, off, none⟩) T.held.length c) := XJ.out.c 0 0 rfl rfl
        have x1 : wr.cell? ⟨w.heap.size, 1, none⟩ = some (.slice va T.wait.length vc) := XJ.out.c 0 1 rfl rfl
        have hwl : b < wr.heap.size := Nat.lt_of_lt_of_le hblr HJ.out.1.size
        have y2 := (HJ.out.1.cell (p := ⟨b, off + t * 4 + 2, none⟩) hblr).trans Y.out.1
        have y3 := (HJ.out.1.cell (p := ⟨b, off + t * 4 + 3, none⟩) hblr).trans Y.out.2
        have hs2 := XJ.out.size
        simp only [List.length_cons, List.length_nil] at hs2
        have xl2 : w.heap.size < wr.heap.size := by omega
        have HB8 := hideIt HJ.out.1
        by_cases hjl : j < T.wait.length
        · have hjI : (j : Int) < (T.wait.length : Int) := by omega
          have hj0 : (0 : Int) ≤ (j : Int) := by omega
          have hjw : IntKind.i64.wrap ((j : Int) + 1) = ((j + 1 : Nat) : Int) := by rw [IntKind.wrap_i64]; omega
          obtain ⟨b2, of2, rfl, hbl0, -, -, q2, q3⟩ := VH.out j hjl
          have hbl2 : b2 < wr.heap.size := Nat.lt_of_lt_of_le hbl0 XJ.out.bel.size
          have q2 := (XJ.out.bel.cell (p := ⟨b2, of2 + j * 4 + 2, none⟩) hbl0).trans q2
          have q3 := (XJ.out.bel.cell (p := ⟨b2, of2 + j * 4 + 3, none⟩) hbl0).trans q3
          have HT : Hid ((T.wait.take (j + 1)).any (fun y => y.2 == (p2, p3)) = (fd || (T.wait[j].2 == (p2, p3)))) := by
            show List.any _ _ = _
            rw [List.take_succ_eq_append_getElem hjl, List.any_append, HJ.out.2]
            simp
          clear HJ XJ VH
          generalize T.wait[j] = en at *
          obtain ⟨⟨x, y⟩, ⟨z, u⟩⟩ := en
          dsimp only at q2 q3 HT
          go_upto_region 8 with fail
          cases fd
          · have e2 : ∀ W, (binOp .eql 29 (.agg #[.int .i64 z, .int .i64 u]) (.agg #[.int .i64 p2, .int .i64 p3])).run Try.prog W = .ok (.bool ((z, u) == (p2, p3))) W := fun W => eq28 z u p2 p3 W
            generalize ((z, u) == (p2, p3)) = bb at *
            refine wp_region_held_drew (S := (fun W => W.cell? ⟨w.heap.size, 0, none⟩ = some (.slice (some ⟨b, off, none⟩) T.held.length c) ∧ W.cell? ⟨w.heap.size, 1, none⟩ = some (.slice (some ⟨b2, of2, none⟩) T.wait.length vc) ∧ W.cell? ⟨b2, of2 + j * 4 + 2, none⟩ = some (.int .i64 z) ∧ W.cell? ⟨b2, of2 + j * 4 + 3, none⟩ = some (.int .i64 u) ∧ W.cell? ⟨b, off + t * 4 + 2, none⟩ = some (.int .i64 p2) ∧ W.cell? ⟨b, off + t * 4 + 3, none⟩ = some (.int .i64 p3))) (by kernel_rfl) ⟨x0, x1, q2, q3, y2, y3⟩ (fun hHeld => ?_)
            refine wpAnyH_take (i := 0) (oi := ⟨some 20, _, _, _, _, _⟩) (v := ?_) rfl (by kernel_rfl) (by kernel_rfl) (by kernel_rfl) (fun _ _ _ h => h) (Or.inl ⟨by rfl, ?_⟩) (by assumption) ?_
            rotate_left
            · intro w5 hSw
              (try dsimp only at hSw)
              go_simp
              (try with_reducible rfl)
            try simp only [Act.put, List.setIfInBounds_toArray, List.set_cons_zero, List.set_cons_succ]
            refine wpAnyH_take (i := 1) (oi := ⟨some 21, _, _, _, _, _⟩) (v := ?_) rfl (by kernel_rfl) (by kernel_rfl) (by kernel_rfl) (fun _ _ _ h => h) (Or.inl ⟨by rfl, ?_⟩) (by assumption) ?_
            rotate_left
            · intro w5 hSw
              (try dsimp only at hSw)
              go_simp
              (try with_reducible rfl)
            try simp only [Act.put, List.setIfInBounds_toArray, List.set_cons_zero, List.set_cons_succ]
            refine wpAnyH_take (i := 2) (oi := ⟨some 22, _, _, _, _, _⟩) (v := ?_) rfl (by kernel_rfl) (by kernel_rfl) (by kernel_rfl) (fun _ _ _ h => h) (Or.inl ⟨by rfl, ?_⟩) (by assumption) ?_
            rotate_left
            · intro w5 hSw
              (try dsimp only at hSw)
              go_simp
              (try with_reducible rfl)
            try simp only [Act.put, List.setIfInBounds_toArray, List.set_cons_zero, List.set_cons_succ]
            refine wpAnyH_take (i := 3) (oi := ⟨some 23, _, _, _, _, _⟩) (v := ?_) rfl (by kernel_rfl) (by kernel_rfl) (by kernel_rfl) (fun _ _ _ h => h) (Or.inl ⟨by rfl, ?_⟩) (by assumption) ?_
            rotate_left
            · intro w5 hSw
              (try dsimp only at hSw)
              go_simp
              (try with_reducible rfl)
            try simp only [Act.put, List.setIfInBounds_toArray, List.set_cons_zero, List.set_cons_succ]
            refine wpAnyH_take (i := 4) (oi := ⟨some 24, _, _, _, _, _⟩) (v := ?_) rfl (by kernel_rfl) (by kernel_rfl) (by kernel_rfl) (fun _ _ _ h => h) (Or.inl ⟨by rfl, ?_⟩) (by assumption) ?_
            rotate_left
            · intro w5 hSw
              (try dsimp only at hSw)
              go_simp
              (try with_reducible rfl)
            try simp only [Act.put, List.setIfInBounds_toArray, List.set_cons_zero, List.set_cons_succ]
            refine wpAnyH_take (i := 5) (oi := ⟨some 25, _, _, _, _, _⟩) (v := ?_) rfl (by kernel_rfl) (by kernel_rfl) (by kernel_rfl) (fun _ _ _ h => h) (Or.inl ⟨by rfl, ?_⟩) (by assumption) ?_
            rotate_left
            · intro w5 hSw
              (try dsimp only at hSw)
              go_simp
              (try with_reducible rfl)
            try simp only [Act.put, List.setIfInBounds_toArray, List.set_cons_zero, List.set_cons_succ]
            refine wpAnyH_take (i := 6) (oi := ⟨some 26, _, _, _, _, _⟩) (v := ?_) rfl (by kernel_rfl) (by kernel_rfl) (by kernel_rfl) (fun _ _ _ h => h) (Or.inl ⟨by rfl, ?_⟩) (by assumption) ?_
            rotate_left
            · intro w5 hSw
              (try dsimp only at hSw)
              go_simp
              (try with_reducible rfl)
            try simp only [Act.put, List.setIfInBounds_toArray, List.set_cons_zero, List.set_cons_succ]
            refine wpAnyH_take (i := 7) (oi := ⟨some 27, _, _, _, _, _⟩) (v := ?_) rfl (by kernel_rfl) (by kernel_rfl) (by kernel_rfl) (fun _ _ _ h => h) (Or.inl ⟨by rfl, ?_⟩) (by assumption) ?_
            rotate_left
            · intro w5 hSw
              (try dsimp only at hSw)
              go_simp
              (try with_reducible rfl)
            try simp only [Act.put, List.setIfInBounds_toArray, List.set_cons_zero, List.set_cons_succ]
            refine wpAnyH_take (i := 8) (oi := ⟨some 28, _, _, _, _, _⟩) (v := ?_) rfl (by kernel_rfl) (by kernel_rfl) (by kernel_rfl) (fun _ _ _ h => h) (Or.inl ⟨by rfl, ?_⟩) (by assumption) ?_
            rotate_left
            · intro w5 hSw
              (try dsimp only at hSw)
              go_simp
              (try with_reducible rfl)
            try simp only [Act.put, List.setIfInBounds_toArray, List.set_cons_zero, List.set_cons_succ]
            refine wpAnyH_take (i := 9) (oi := ⟨some 29, _, _, _, _, _⟩) (v := ?_) rfl (by kernel_rfl) (by kernel_rfl) (by kernel_rfl) (fun _ _ _ h => h) (Or.inl ⟨by rfl, ?_⟩) (by assumption) ?_
            rotate_left
            · intro w5 hSw
              (try dsimp only at hSw)
              go_simp
              (try with_reducible rfl)
            try simp only [Act.put, List.setIfInBounds_toArray, List.set_cons_zero, List.set_cons_succ]
            refine wpAnyH_take (i := 10) (oi := ⟨some 30, _, _, _, _, _⟩) (v := ?_) rfl (by kernel_rfl) (by kernel_rfl) (by kernel_rfl) (fun _ _ _ h => h) (Or.inl ⟨by rfl, ?_⟩) (by assumption) ?_
            rotate_left
            · intro w5 hSw
              (try dsimp only at hSw)
              go_simp
              (try with_reducible rfl)
            try simp only [Act.put, List.setIfInBounds_toArray, List.set_cons_zero, List.set_cons_succ]
            refine wpAnyH_take (i := 11) (oi := ⟨some 31, _, _, _, _, _⟩) (v := ?_) rfl (by kernel_rfl) (by kernel_rfl) (by kernel_rfl) (fun _ _ _ h => h) (Or.inl ⟨by rfl, ?_⟩) (by assumption) ?_
            rotate_left
            · intro w5 hSw
              (try dsimp only at hSw)
              go_simp
              (try with_reducible rfl)
            try simp only [Act.put, List.setIfInBounds_toArray, List.set_cons_zero, List.set_cons_succ]
            refine wpAnyH_take (i := 12) (oi := ⟨some 32, _, _, _, _, _⟩) (v := ?_) rfl (by kernel_rfl) (by kernel_rfl) (by kernel_rfl) (fun _ _ _ h => h) (Or.inl ⟨by rfl, ?_⟩) (by assumption) ?_
            rotate_left
            · intro w5 hSw
              (try dsimp only at hSw)
              go_simp
              (try with_reducible rfl)
            try simp only [Act.put, List.setIfInBounds_toArray, List.set_cons_zero, List.set_cons_succ]
            refine wpAnyH_take (i := 13) (oi := ⟨some 33, _, _, _, _, _⟩) (v := ?_) rfl (by kernel_rfl) (by kernel_rfl) (by kernel_rfl) (fun _ _ _ h => h) (Or.inl ⟨by rfl, ?_⟩) (by assumption) ?_
            rotate_left
            · intro w5 hSw
              (try dsimp only at hSw)
              go_simp
              (try with_reducible rfl)
            try simp only [Act.put, List.setIfInBounds_toArray, List.set_cons_zero, List.set_cons_succ]
            refine wpAnyH_take (i := 14) (oi := ⟨some 34, _, _, _, _, _⟩) (v := ?_) rfl (by kernel_rfl) (by kernel_rfl) (by kernel_rfl) (fun _ _ _ h => h) (Or.inl ⟨by rfl, ?_⟩) (by assumption) ?_
            rotate_left
            · intro w5 hSw
              (try dsimp only at hSw)
              go_simp
              (try with_reducible rfl)
            try simp only [Act.put, List.setIfInBounds_toArray, List.set_cons_zero, List.set_cons_succ]
            refine wpAnyH_take (i := 15) (oi := ⟨some 35, _, _, _, _, _⟩) (v := ?_) rfl (by kernel_rfl) (by kernel_rfl) (by kernel_rfl) (fun _ _ _ h => h) (Or.inl ⟨by rfl, ?_⟩) (by assumption) ?_
            rotate_left
            · intro w5 hSw
              (try dsimp only at hSw)
              go_simp
              (try with_reducible rfl)
            try simp only [Act.put, List.setIfInBounds_toArray, List.set_cons_zero, List.set_cons_succ]
            refine wpAnyH_take (i := 16) (oi := ⟨some 4, _, _, _, _, _⟩) (v := ?_) rfl (by kernel_rfl) (by kernel_rfl) (by kernel_rfl) (fun _ _ _ h => h) (Or.inl ⟨by rfl, ?_⟩) (by assumption) ?_
            rotate_left
            · intro w5 hSw
              (try dsimp only at hSw)
              go_simp
              (try with_reducible rfl)
            try simp only [Act.put, List.setIfInBounds_toArray, List.set_cons_zero, List.set_cons_succ]
            refine wpAnyH_done (by kernel_rfl) ?_ _
            go_wp2
            go_roundw
            case rel => exact ⟨j + 1, bb, rfl, by go_num, by omega, hideIt ⟨below_via HB8.out ((Below.refl _ _).drew), by rw [HT.out]; rfl⟩⟩
            case measure => simp [intOf]; omega
          · skip
            refine wp_region_held_drew (S := (fun W => W.cell? ⟨w.heap.size, 0, none⟩ = some (.slice (some ⟨b, off, none⟩) T.held.length c) ∧ W.cell? ⟨w.heap.size, 1, none⟩ = some (.slice (some ⟨b2, of2, none⟩) T.wait.length vc) ∧ W.cell? ⟨b2, of2 + j * 4 + 2, none⟩ = some (.int .i64 z) ∧ W.cell? ⟨b2, of2 + j * 4 + 3, none⟩ = some (.int .i64 u) ∧ W.cell? ⟨b, off + t * 4 + 2, none⟩ = some (.int .i64 p2) ∧ W.cell? ⟨b, off + t * 4 + 3, none⟩ = some (.int .i64 p3))) (by kernel_rfl) ⟨x0, x1, q2, q3, y2, y3⟩ (fun hHeld => ?_)
            refine wpAnyH_take (i := 0) (oi := ⟨some 20, _, _, _, _, _⟩) (v := ?_) rfl (by kernel_rfl) (by kernel_rfl) (by kernel_rfl) (fun _ _ _ h => h) (Or.inl ⟨by rfl, ?_⟩) (by assumption) ?_
            rotate_left
            · intro w5 hSw
              (try dsimp only at hSw)
              go_simp
              (try with_reducible rfl)
            try simp only [Act.put, List.setIfInBounds_toArray, List.set_cons_zero, List.set_cons_succ]
            refine wpAnyH_take (i := 1) (oi := ⟨some 21, _, _, _, _, _⟩) (v := ?_) rfl (by kernel_rfl) (by kernel_rfl) (by kernel_rfl) (fun _ _ _ h => h) (Or.inl ⟨by rfl, ?_⟩) (by assumption) ?_
            rotate_left
            · intro w5 hSw
              (try dsimp only at hSw)
              go_simp
              (try with_reducible rfl)
            try simp only [Act.put, List.setIfInBounds_toArray, List.set_cons_zero, List.set_cons_succ]
            refine wpAnyH_take (i := 2) (oi := ⟨some 22, _, _, _, _, _⟩) (v := undef) rfl (by kernel_rfl) (by kernel_rfl) (by kernel_rfl) (fun _ _ _ h => h) (Or.inr ⟨by rfl, rfl⟩) (by assumption) ?_
            try simp only [Act.put, List.setIfInBounds_toArray, List.set_cons_zero, List.set_cons_succ]
            refine wpAnyH_take (i := 3) (oi := ⟨some 23, _, _, _, _, _⟩) (v := undef) rfl (by kernel_rfl) (by kernel_rfl) (by kernel_rfl) (fun _ _ _ h => h) (Or.inr ⟨by rfl, rfl⟩) (by assumption) ?_
            try simp only [Act.put, List.setIfInBounds_toArray, List.set_cons_zero, List.set_cons_succ]
            refine wpAnyH_take (i := 4) (oi := ⟨some 24, _, _, _, _, _⟩) (v := undef) rfl (by kernel_rfl) (by kernel_rfl) (by kernel_rfl) (fun _ _ _ h => h) (Or.inr ⟨by rfl, rfl⟩) (by assumption) ?_
            try simp only [Act.put, List.setIfInBounds_toArray, List.set_cons_zero, List.set_cons_succ]
            refine wpAnyH_take (i := 5) (oi := ⟨some 25, _, _, _, _, _⟩) (v := undef) rfl (by kernel_rfl) (by kernel_rfl) (by kernel_rfl) (fun _ _ _ h => h) (Or.inr ⟨by rfl, rfl⟩) (by assumption) ?_
            try simp only [Act.put, List.setIfInBounds_toArray, List.set_cons_zero, List.set_cons_succ]
            refine wpAnyH_take (i := 6) (oi := ⟨some 26, _, _, _, _, _⟩) (v := undef) rfl (by kernel_rfl) (by kernel_rfl) (by kernel_rfl) (fun _ _ _ h => h) (Or.inr ⟨by rfl, rfl⟩) (by assumption) ?_
            try simp only [Act.put, List.setIfInBounds_toArray, List.set_cons_zero, List.set_cons_succ]
            refine wpAnyH_take (i := 7) (oi := ⟨some 27, _, _, _, _, _⟩) (v := undef) rfl (by kernel_rfl) (by kernel_rfl) (by kernel_rfl) (fun _ _ _ h => h) (Or.inr ⟨by rfl, rfl⟩) (by assumption) ?_
            try simp only [Act.put, List.setIfInBounds_toArray, List.set_cons_zero, List.set_cons_succ]
            refine wpAnyH_take (i := 8) (oi := ⟨some 28, _, _, _, _, _⟩) (v := undef) rfl (by kernel_rfl) (by kernel_rfl) (by kernel_rfl) (fun _ _ _ h => h) (Or.inr ⟨by rfl, rfl⟩) (by assumption) ?_
            try simp only [Act.put, List.setIfInBounds_toArray, List.set_cons_zero, List.set_cons_succ]
            refine wpAnyH_take (i := 9) (oi := ⟨some 29, _, _, _, _, _⟩) (v := undef) rfl (by kernel_rfl) (by kernel_rfl) (by kernel_rfl) (fun _ _ _ h => h) (Or.inr ⟨by rfl, rfl⟩) (by assumption) ?_
            try simp only [Act.put, List.setIfInBounds_toArray, List.set_cons_zero, List.set_cons_succ]
            refine wpAnyH_take (i := 10) (oi := ⟨some 30, _, _, _, _, _⟩) (v := undef) rfl (by kernel_rfl) (by kernel_rfl) (by kernel_rfl) (fun _ _ _ h => h) (Or.inr ⟨by rfl, rfl⟩) (by assumption) ?_
            try simp only [Act.put, List.setIfInBounds_toArray, List.set_cons_zero, List.set_cons_succ]
            refine wpAnyH_take (i := 11) (oi := ⟨some 31, _, _, _, _, _⟩) (v := undef) rfl (by kernel_rfl) (by kernel_rfl) (by kernel_rfl) (fun _ _ _ h => h) (Or.inr ⟨by rfl, rfl⟩) (by assumption) ?_
            try simp only [Act.put, List.setIfInBounds_toArray, List.set_cons_zero, List.set_cons_succ]
            refine wpAnyH_take (i := 12) (oi := ⟨some 32, _, _, _, _, _⟩) (v := undef) rfl (by kernel_rfl) (by kernel_rfl) (by kernel_rfl) (fun _ _ _ h => h) (Or.inr ⟨by rfl, rfl⟩) (by assumption) ?_
            try simp only [Act.put, List.setIfInBounds_toArray, List.set_cons_zero, List.set_cons_succ]
            refine wpAnyH_take (i := 13) (oi := ⟨some 33, _, _, _, _, _⟩) (v := undef) rfl (by kernel_rfl) (by kernel_rfl) (by kernel_rfl) (fun _ _ _ h => h) (Or.inr ⟨by rfl, rfl⟩) (by assumption) ?_
            try simp only [Act.put, List.setIfInBounds_toArray, List.set_cons_zero, List.set_cons_succ]
            refine wpAnyH_take (i := 14) (oi := ⟨some 34, _, _, _, _, _⟩) (v := undef) rfl (by kernel_rfl) (by kernel_rfl) (by kernel_rfl) (fun _ _ _ h => h) (Or.inr ⟨by rfl, rfl⟩) (by assumption) ?_
            try simp only [Act.put, List.setIfInBounds_toArray, List.set_cons_zero, List.set_cons_succ]
            refine wpAnyH_take (i := 15) (oi := ⟨some 35, _, _, _, _, _⟩) (v := ?_) rfl (by kernel_rfl) (by kernel_rfl) (by kernel_rfl) (fun _ _ _ h => h) (Or.inl ⟨by rfl, ?_⟩) (by assumption) ?_
            rotate_left
            · intro w5 hSw
              (try dsimp only at hSw)
              go_simp
              (try with_reducible rfl)
            try simp only [Act.put, List.setIfInBounds_toArray, List.set_cons_zero, List.set_cons_succ]
            refine wpAnyH_take (i := 16) (oi := ⟨some 4, _, _, _, _, _⟩) (v := ?_) rfl (by kernel_rfl) (by kernel_rfl) (by kernel_rfl) (fun _ _ _ h => h) (Or.inl ⟨by rfl, ?_⟩) (by assumption) ?_
            rotate_left
            · intro w5 hSw
              (try dsimp only at hSw)
              go_simp
              (try with_reducible rfl)
            try simp only [Act.put, List.setIfInBounds_toArray, List.set_cons_zero, List.set_cons_succ]
            refine wpAnyH_done (by kernel_rfl) ?_ _
            go_wp2
            go_roundw
            case rel => exact ⟨j + 1, true, rfl, by go_num, by omega, hideIt ⟨below_via HB8.out ((Below.refl _ _).drew), by rw [HT.out]; rfl⟩⟩
            case measure => simp [intOf]; omega
        · have hjI : ¬ (j : Int) < (T.wait.length : Int) := by omega
          have hE : T.wait.take j = T.wait := List.take_of_length_le (by omega)
          have hfd := HJ.out.2
          rw [hE, ← HP.out] at hfd
          subst hfd
          clear HJ hE VH X Y HP
          have r0 : wr.cell? ⟨w.heap.size + 1, 0, none⟩ = some (.int .i64 0) := XJ.out.c 1 0 rfl rfl
          have r1 : wr.cell? ⟨w.heap.size + 1, 1, none⟩ = some (.int .i64 0) := XJ.out.c 1 1 rfl rfl
          have g0 : wr.frozen? ⟨w.heap.size + 1, 0, none⟩ = false := XJ.out.f 1 0 rfl
          have g1 : wr.frozen? ⟨w.heap.size + 1, 1, none⟩ = false := XJ.out.f 1 1 rfl
          cases hq : fd
          · have HE := hideIt (HF1.out hq)
            have RH := hideIt (put2 (wc := wr) (b := w.heap.size + 1) (XJ.out.at_ 1 (by simp)) (.int .i64 p2) (.int .i64 p3))
            have RC := hideIt (And.intro (two_at RH.out).1 (two_at RH.out).2.1)
            clear HF0 HF1 hq
            go_wp2
            exact bodyPost_ret (v := .agg #[.int .i64 p2, .int .i64 p3]) (by simp [results, Try.results6, go_sem, RC.out.1, RC.out.2]) rfl ⟨by rw [HI.out, HE.out], belowSet _ (belowSet _ XJ.out.bel (by omega)) (by omega)⟩
          · have HE := hideIt (HF0.out hq)
            clear HF0 HF1 hq
            go_wp2
            go_roundw
            case rel => exact ⟨t + 1, by go_num, by omega, hideIt ⟨XJ.out, HE.out⟩⟩
            case measure => simp [intOf]; omega
    · have hltI : ¬ (t : Int) < (T.held.length : Int) := by omega
      have HF : Hid (fdT T.held (fun h => !(p h)) = zT) := by
        show fdT _ _ = _
        rw [HR.out.2, List.drop_eq_nil_of_le (by omega)]
        rfl
      have r0 : wr.cell? ⟨w.heap.size + 1, 0, none⟩ = some (.int .i64 0) := X.out.c 1 0 rfl rfl
      have r1 : wr.cell? ⟨w.heap.size + 1, 1, none⟩ = some (.int .i64 0) := X.out.c 1 1 rfl rfl
      have g0 : wr.frozen? ⟨w.heap.size + 1, 0, none⟩ = false := X.out.f 1 0 rfl
      have g1 : wr.frozen? ⟨w.heap.size + 1, 1, none⟩ = false := X.out.f 1 1 rfl
      have RH := hideIt (put2 (wc := wr) (b := w.heap.size + 1) (X.out.at_ 1 (by simp)) (.int .i64 0) (.int .i64 0))
      have RC := hideIt (And.intro (two_at RH.out).1 (two_at RH.out).2.1)
      clear HR HH HB VH
      go_wp2
      exact bodyPost_ret (v := .agg #[.int .i64 0, .int .i64 0]) (by simp [results, Try.results6, go_sem, RC.out.1, RC.out.2]) rfl ⟨by rw [HI.out, HF.out]; rfl, belowSet _ (belowSet _ X.out.bel (by omega)) (by omega)⟩
end Go.Proofs.Ytgfpeknhabbkbab
