/- A wheel, the document's own wheel, a block and a row side by side; looks. -/
import Derived.Test.YtebinckkghmkhaaRefTick
import Derived.Test.YtebinckkghmkhaaOrderP
namespace Go.Proofs.Ytebinckkghmkhaa
open Go.RowKit

/-- All made behind w, nothing shared. -/
def Pr (w : World) (p q z : Nat) (o : Obj) (S1 S2 : Wh) (l : List Nat) (r : Option (Nat × Nat)) (W : World) : Prop :=
  ∃ F G, WheelAt W F p S1 ∧ RefAt W G q S2 ∧ (∀ k, F k → w.heap.size ≤ k ∧ ¬ G k ∧ k ≠ z) ∧ (∀ k, G k → w.heap.size ≤ k ∧ k ≠ z) ∧ Below w.heap.size w W ∧ W.heap[z]? = some o ∧ SRow W l r ∧ (∀ g c, r = some (g, c) → w.heap.size ≤ g ∧ ¬ F g ∧ ¬ G g ∧ g ≠ z)
/-- The same without the block. -/
def Pr0 (w : World) (p q : Nat) (S : Wh) (W : World) : Prop :=
  ∃ F G, WheelAt W F p S ∧ RefAt W G q S ∧ (∀ k, F k → w.heap.size ≤ k ∧ ¬ G k) ∧ (∀ k, G k → w.heap.size ≤ k) ∧ Below w.heap.size w W
theorem Pr.base {w : World} {p q z : Nat} {o : Obj} {S1 S2 : Wh} {l : List Nat} {r : Option (Nat × Nat)} {W : World} (h : Pr w p q z o S1 S2 l r W) : Below w.heap.size w W := by
  obtain ⟨_, _, _, _, _, _, hB, _⟩ := h
  exact hB
theorem Pr.block {w : World} {p q z : Nat} {o : Obj} {S1 S2 : Wh} {l : List Nat} {r : Option (Nat × Nat)} {W : World} (h : Pr w p q z o S1 S2 l r W) : W.heap[z]? = some o := by
  obtain ⟨_, _, _, _, _, _, _, hz, _⟩ := h
  exact hz
theorem Pr.row {w : World} {p q z : Nat} {o : Obj} {S1 S2 : Wh} {l : List Nat} {r : Option (Nat × Nat)} {W : World} (h : Pr w p q z o S1 S2 l r W) : SRow W l r := by
  obtain ⟨_, _, _, _, _, _, _, _, hr, _⟩ := h
  exact hr
theorem Pr.less {w : World} {p q z : Nat} {o : Obj} {S : Wh} {l : List Nat} {r : Option (Nat × Nat)} {W : World} (h : Pr w p q z o S S l r W) : Pr0 w p q S W := by
  obtain ⟨F, G, h1, h2, h3, h4, hB, _⟩ := h
  exact ⟨F, G, h1, h2, fun k hk => ⟨(h3 k hk).1, (h3 k hk).2.1⟩, fun k hk => (h4 k hk).1, hB⟩
theorem Pr0.alloc {w : World} {p q : Nat} {S : Wh} {W : World} (h : Pr0 w p q S W) (o : Obj) : Pr w p q W.heap.size o S S [] none (W.alloc o) := by
  obtain ⟨F, G, h1, h2, h3, h4, hB⟩ := h
  have hb : Below W.heap.size W (W.alloc o) := (Below.refl _ _).alloc (Nat.le_refl _) _
  refine ⟨F, G, h1.below hb, h2.below hb, fun k hk => ⟨(h3 k hk).1, (h3 k hk).2, ?_⟩, fun k hk => ⟨h4 k hk, ?_⟩, hB.trans (hb.mono hB.size), heap_alloc_new W o, rfl, fun g c e => (by cases e)⟩
  · have := h1.small k hk
    omega
  · have := h2.small k hk
    omega
theorem Pr.below {w : World} {p q z : Nat} {o : Obj} {S1 S2 : Wh} {l : List Nat} {r : Option (Nat × Nat)} {W W' : World} (h : Pr w p q z o S1 S2 l r W) (hb : Below W.heap.size W W') : Pr w p q z o S1 S2 l r W' := by
  obtain ⟨F, G, h1, h2, h3, h4, hB, hz, hr, h6⟩ := h
  exact ⟨F, G, h1.below hb, h2.below hb, h3, h4, hB.trans (hb.mono hB.size), (hb.block z (Array.getElem?_eq_some_iff.1 hz).1).trans hz, hr.keep (fun g c e => hb.block g (by subst e; exact hr.lt)), h6⟩
theorem Pr.drew {w : World} {p q z : Nat} {o : Obj} {S1 S2 : Wh} {l : List Nat} {r : Option (Nat × Nat)} {W : World} (h : Pr w p q z o S1 S2 l r W) : Pr w p q z o S1 S2 l r W.drew := h.below (Below.refl _ _).drew
theorem Pr.forget {w : World} {p q z : Nat} {o : Obj} {S1 S2 : Wh} {l : List Nat} {r : Option (Nat × Nat)} {W : World} (h : Pr w p q z o S1 S2 l r W) : Pr w p q z o S1 S2 [] none W := by
  obtain ⟨F, G, h1, h2, h3, h4, hB, hz, hr, h6⟩ := h
  exact ⟨F, G, h1, h2, h3, h4, hB, hz, rfl, fun g c e => (by cases e)⟩
theorem Pr.set {w : World} {p q z : Nat} {o : Obj} {S1 S2 : Wh} {l : List Nat} {r : Option (Nat × Nat)} {W : World} (h : Pr w p q z o S1 S2 l r W) (hN : S1.now < 1000000000) (k x : Int) :
    Calls Try.prog 9 #[.pointer (some ⟨p, 0, none⟩), .int .i64 k, .int .i64 x] W fun e w' => e = .returned (.int .i64 (setE S1 k x : Int)) ∧ Pr w p q z o (setW S1 k x) S2 l r w' := by
  obtain ⟨F, G, h1, h2, h3, h4, hB, hz, hr, h6⟩ := h
  have hs := hB.size
  have hzl := (Array.getElem?_eq_some_iff.1 hz).1
  refine (set_is h1 k x hN).mono ?_
  rintro e w' ⟨rfl, ⟨F', hw', hf'⟩, ho⟩
  refine ⟨rfl, F', G, hw', h2.out ho (fun k hk hv => (h3 k hv).2.1 hk), fun k hk => ?_, h4, hB.trans (ho.below hs (fun k hk => (h3 k hk).1)), (ho.block z hzl (fun e => (h3 z e).2.2 rfl)).trans hz, hr.keep (fun g c e => ho.block g (by subst e; exact hr.lt) (h6 g c e).2.1), fun g c e => ⟨(h6 g c e).1, fun hg => ?_, (h6 g c e).2.2⟩⟩
  · rcases hf' k hk with h | h
    · exact h3 k h
    · exact ⟨by omega, fun hw => by have := h2.small k hw; omega, by omega⟩
  · rcases hf' g hg with h | h
    · exact (h6 g c e).2.1 h
    · subst e
      have := hr.lt
      omega
theorem Pr.stop {w : World} {p q z : Nat} {o : Obj} {S1 S2 : Wh} {l : List Nat} {r : Option (Nat × Nat)} {W : World} (h : Pr w p q z o S1 S2 l r W) (hN : S1.now < 1000000000) (k : Int) :
    Calls Try.prog 11 #[.pointer (some ⟨p, 0, none⟩), .int .i64 k] W fun e w' => e = .returned (.int .i64 (stopE S1 k : Int)) ∧ Pr w p q z o (stopW S1 k) S2 l r w' := by
  obtain ⟨F, G, h1, h2, h3, h4, hB, hz, hr, h6⟩ := h
  have hs := hB.size
  have hzl := (Array.getElem?_eq_some_iff.1 hz).1
  refine (stop_is h1 k hN).mono ?_
  rintro e w' ⟨rfl, hw', ho⟩
  exact ⟨rfl, F, G, hw', h2.out ho (fun k hk hv => (h3 k hv).2.1 hk), h3, h4, hB.trans (ho.below hs (fun k hk => (h3 k hk).1)), (ho.block z hzl (fun e => (h3 z e).2.2 rfl)).trans hz, hr.keep (fun g c e => ho.block g (by subst e; exact hr.lt) (h6 g c e).2.1), h6⟩
theorem Pr.ofRef {w : World} {p q z : Nat} {o : Obj} {S1 S2' : Wh} {l : List Nat} {r : Option (Nat × Nat)} {W W' : World} {F G : Nat → Prop} (h1 : WheelAt W F p S1) (h3 : ∀ k, F k → w.heap.size ≤ k ∧ ¬ G k ∧ k ≠ z) (h4 : ∀ k, G k → w.heap.size ≤ k ∧ k ≠ z) (hB : Below w.heap.size w W) (hz : W.heap[z]? = some o) (hr : SRow W l r) (h6 : ∀ g c, r = some (g, c) → w.heap.size ≤ g ∧ ¬ F g ∧ ¬ G g ∧ g ≠ z)
    (hw' : RefAt W' G q S2') (ho : Out G W W') : Pr w p q z o S1 S2' l r W' := by
  have hs := hB.size
  have hzl := (Array.getElem?_eq_some_iff.1 hz).1
  exact ⟨F, G, h1.out ho (fun k hk hv => (h3 k hk).2.1 hv), hw', h3, h4, hB.trans (ho.below hs (fun k hk => (h4 k hk).1)), (ho.block z hzl (fun e => (h4 z e).2 rfl)).trans hz, hr.keep (fun g c e => ho.block g (by subst e; exact hr.lt) (h6 g c e).2.2.1), h6⟩
theorem Pr.rset {w : World} {p q z : Nat} {o : Obj} {S1 S2 : Wh} {l : List Nat} {r : Option (Nat × Nat)} {W : World} (h : Pr w p q z o S1 S2 l r W) (k x : Int) :
    Calls Try.prog 10 #[.pointer (some ⟨q, 0, none⟩), .int .i64 k, .int .i64 x] W fun e w' => e = .returned (.int .i64 (setE S2 k x : Int)) ∧ Pr w p q z o S1 (setW S2 k x) l r w' := by
  obtain ⟨F, G, h1, h2, h3, h4, hB, hz, hr, h6⟩ := h
  refine (refSet_is h2 k x).mono ?_
  rintro e w' ⟨rfl, hw', ho⟩
  exact ⟨rfl, Pr.ofRef h1 h3 h4 hB hz hr h6 hw' ho⟩
theorem Pr.rstop {w : World} {p q z : Nat} {o : Obj} {S1 S2 : Wh} {l : List Nat} {r : Option (Nat × Nat)} {W : World} (h : Pr w p q z o S1 S2 l r W) (k : Int) :
    Calls Try.prog 12 #[.pointer (some ⟨q, 0, none⟩), .int .i64 k] W fun e w' => e = .returned (.int .i64 (stopE S2 k : Int)) ∧ Pr w p q z o S1 (stopW S2 k) l r w' := by
  obtain ⟨F, G, h1, h2, h3, h4, hB, hz, hr, h6⟩ := h
  refine (refStop_is h2 k).mono ?_
  rintro e w' ⟨rfl, hw', ho⟩
  exact ⟨rfl, Pr.ofRef h1 h3 h4 hB hz hr h6 hw' ho⟩
def PTick (w : World) (p q z : Nat) (o : Obj) (S1 S2 : Wh) (e : Ending) (w' : World) : Prop := ∃ r, e = .returned (sval (dueL S1) r) ∧ Pr w p q z o (tickS S1) S2 (dueL S1) r w'
theorem Pr.tick {w : World} {p q z : Nat} {o : Obj} {S1 S2 : Wh} {l : List Nat} {r : Option (Nat × Nat)} {W : World} (h : Pr w p q z o S1 S2 l r W) (hN : S1.now < 1000000000) :
    Calls Try.prog 14 #[.pointer (some ⟨p, 0, none⟩)] W (PTick w p q z o S1 S2) := by
  obtain ⟨F, G, h1, h2, h3, h4, hB, hz, hr, h6⟩ := h
  have hs := hB.size
  have hzl := (Array.getElem?_eq_some_iff.1 hz).1
  refine (tick_is h1 hN).mono ?_
  rintro e w' ⟨r', rfl, hrow, hfr, hw', ho⟩
  refine ⟨r', rfl, F, G, hw', h2.out ho (fun k hk hv => (h3 k hv).2.1 hk), h3, h4, hB.trans (ho.below hs (fun k hk => (h3 k hk).1)), (ho.block z hzl (fun e => (h3 z e).2.2 rfl)).trans hz, hrow, fun g c e => ?_⟩
  have := hfr g c e
  exact ⟨by omega, fun h => by have := h1.small g h; omega, fun h => by have := h2.small g h; omega, by omega⟩
def PRTick (w : World) (p q z : Nat) (o : Obj) (S1 S2 : Wh) (l : List Nat) (r : Option (Nat × Nat)) (e : Ending) (w' : World) : Prop := ∃ r2, e = .returned (sval (dueL S2) r2) ∧ SRow w' (dueL S2) r2 ∧ Pr w p q z o S1 (tickS S2) l r w'
theorem Pr.rtick {w : World} {p q z : Nat} {o : Obj} {S1 S2 : Wh} {l : List Nat} {r : Option (Nat × Nat)} {W : World} (h : Pr w p q z o S1 S2 l r W) (hkey : ∀ k, S2.left k ≠ 0 → k < S2.keys) (hN : S2.now < 1000000000) :
    Calls Try.prog 16 #[.pointer (some ⟨q, 0, none⟩)] W (PRTick w p q z o S1 S2 l r) := by
  obtain ⟨F, G, h1, h2, h3, h4, hB, hz, hr, h6⟩ := h
  refine (refTick_is h2 hkey hN).mono ?_
  rintro e w' ⟨r', rfl, hrow, hfr, hw', ho⟩
  exact ⟨r', rfl, hrow, Pr.ofRef h1 h3 h4 hB hz hr h6 hw' ho⟩
/-- The row is written into. -/
theorem Pr.write {w : World} {p q z : Nat} {o : Obj} {S1 S2 : Wh} {l : List Nat} {g c : Nat} {W : World} (h : Pr w p q z o S1 S2 l (some (g, c)) W) (j : Nat) (v : Value) :
    Pr w p q z o S1 S2 [] (some (g, c)) (W.setCell ⟨g, j, none⟩ v) := by
  obtain ⟨F, G, h1, h2, h3, h4, hB, hz, hr, h6⟩ := h
  have hs := hB.size
  have hzl := (Array.getElem?_eq_some_iff.1 hz).1
  obtain ⟨a1, a2, a3, a4⟩ := h6 g c rfl
  have ho : Out (fun i => i = g) W (W.setCell ⟨g, j, none⟩ v) := Out.ofSet _ _ _ rfl
  refine ⟨F, G, h1.out ho (fun k hk e => a2 (e ▸ hk)), h2.out ho (fun k hk e => a3 (e ▸ hk)), h3, h4, hB.trans (ho.below hs (fun k hk => hk ▸ a1)), (ho.block z hzl (fun e => a4 e.symm)).trans hz, ?_, h6⟩
  obtain ⟨cur, hg, q1, q2, q3, q4⟩ := (show IRow W g c l from hr)
  exact ⟨cur.setIfInBounds j v, heap_set hg j v, Nat.zero_le _, q2, by simpa using q3, by simp⟩
theorem Pr.keys {w : World} {p q z : Nat} {o : Obj} {S1 S2 : Wh} {l : List Nat} {r : Option (Nat × Nat)} {W : World} (h : Pr w p q z o S1 S2 l r W) : (∀ k, S1.left k ≠ 0 → k < S1.keys) ∧ S1.keys ≤ 100 := by
  obtain ⟨F, G, ⟨L, sb, cs, hm, hg⟩, _⟩ := h
  exact ⟨hg.key, hg.most⟩
set_option maxHeartbeats 4000000 in
set_option maxRecDepth 100000 in
theorem looks_is {w : World} {p q z : Nat} {o : Obj} {S : Wh} {W : World} (h : Pr w p q z o S S [] none W) (key : Int) (hN : S.now < 1000000000) :
    Calls Try.prog 17 #[.pointer (some ⟨p, 0, none⟩), .pointer (some ⟨q, 0, none⟩), .int .i64 key] W fun e w' => e = .returned (.bool true) ∧ Pr w p q z o S S [] none w' := by
  have H0 : ∀ W', Pr w p q z o S S [] none W' → Calls Try.prog 19 #[.pointer (some ⟨p, 0, none⟩)] W' (fun e w' => e = .returned (.int .i64 (cnt S.left S.keys : Int)) ∧ w' = W') ∧ Calls Try.prog 26 #[.pointer (some ⟨q, 0, none⟩)] W' (fun e w' => e = .returned (.int .i64 (cnt S.left S.keys : Int)) ∧ w' = W') ∧ Calls Try.prog 20 #[.pointer (some ⟨p, 0, none⟩)] W' (fun e w' => e = .returned (.int .i64 (S.now : Int)) ∧ w' = W') ∧ Calls Try.prog 27 #[.pointer (some ⟨q, 0, none⟩)] W' (fun e w' => e = .returned (.int .i64 (S.now : Int)) ∧ w' = W') ∧
      (∀ k : Int, Calls Try.prog 18 #[.pointer (some ⟨p, 0, none⟩), .int .i64 k] W' fun e w' => e = .returned (.tuple #[.int .i64 (leftV S k : Int), .bool (decide (leftV S k ≠ 0))]) ∧ Pr w p q z o S S [] none w') ∧ (∀ k : Int, Calls Try.prog 28 #[.pointer (some ⟨q, 0, none⟩), .int .i64 k] W' fun e w' => e = .returned (.tuple #[.int .i64 (leftV S k : Int), .bool (decide (leftV S k ≠ 0))]) ∧ w' = W') := by
    intro W' hW
    have hW2 := hW
    obtain ⟨F, G, h1, h2, _⟩ := hW
    refine ⟨len_is h1, refLen_is h2, now_is h1, refNow_is h2, fun k => ?_, fun k => refLeft_is h2 k⟩
    refine (left_is h1 k hN).mono ?_
    rintro e w' ⟨rfl, hb⟩
    exact ⟨rfl, hW2.below hb⟩
  have H1 : ∀ k : Int, ∃ (X : Int) (B : Bool), ∀ W', Pr w p q z o S S [] none W' → Calls Try.prog 18 #[.pointer (some ⟨p, 0, none⟩), .int .i64 k] W' (fun e w' => e = .returned (.tuple #[.int .i64 X, .bool B]) ∧ Pr w p q z o S S [] none w') ∧ Calls Try.prog 28 #[.pointer (some ⟨q, 0, none⟩), .int .i64 k] W' (fun e w' => e = .returned (.tuple #[.int .i64 X, .bool B]) ∧ w' = W') :=
    fun k => ⟨_, _, fun W' hW => ⟨(H0 W' hW).2.2.2.2.1 k, (H0 W' hW).2.2.2.2.2 k⟩⟩
  have HH := hideIt H0
  have HL := hideIt H1
  have HP := hideIt h
  clear h H0 H1
  generalize cnt S.left S.keys = C at *
  generalize S.now = T at *
  go_enter Try.func17, Try.ntmps17
  go_wp2_with fail
  refine (HH.out _ HP.out).1.mono ?_
  rintro e w1 ⟨rfl, rfl⟩
  dsimp only
  go_wp2_with fail
  refine (HH.out _ HP.out).2.1.mono ?_
  rintro e w1 ⟨rfl, rfl⟩
  dsimp only
  go_wp2_with fail
  refine (HH.out _ HP.out).2.2.1.mono ?_
  rintro e w1 ⟨rfl, rfl⟩
  dsimp only
  go_wp2_with fail
  refine (HH.out _ HP.out).2.2.2.1.mono ?_
  rintro e w1 ⟨rfl, rfl⟩
  dsimp only
  go_wp2
  go_loopw [7, 8] (fun v7 v8 wr => ∃ i : Int, v7 = .bool true ∧ v8 = .int .i64 i ∧ -1 ≤ i ∧ i ≤ 6 ∧ Hid (Pr w p q z o S S [] none wr)) (fun _ v8 _ => (6 - intOf v8).toNat)
  case atStart => exact ⟨-1, rfl, rfl, by omega, by omega, HP⟩
  case round =>
    clear HP
    obtain ⟨i, rfl, rfl, hi1, hi2, HP⟩ := hrel
    by_cases hlt : i < 6
    · by_cases h5 : i = 5
      · subst h5
        obtain ⟨X, B, hXB⟩ := HL.out key
        have HXB := hideIt hXB
        clear hXB
        cases B
        all_goals
          go_wp2_with fail
          refine (HXB.out _ HP.out).1.mono ?_
          rintro e w2 ⟨rfl, hP2⟩
          dsimp only
          have HP2 := hideIt hP2
          clear hP2
          go_wp2_with fail
          refine (HXB.out _ HP2.out).2.mono ?_
          rintro e w3 ⟨rfl, rfl⟩
          dsimp only
          go_wp2
          go_roundw
          case rel => exact ⟨6, rfl, by go_num, by omega, by omega, HP2⟩
          case measure => simp [intOf]
      · have h5b : (i == 5) = false := beq_eq_false_iff_ne.2 h5
        obtain ⟨X, B, hXB⟩ := HL.out i
        have HXB := hideIt hXB
        clear hXB
        cases B
        all_goals
          go_wp2_with fail
          refine (HXB.out _ HP.out).1.mono ?_
          rintro e w2 ⟨rfl, hP2⟩
          dsimp only
          have HP2 := hideIt hP2
          clear hP2
          go_wp2_with fail
          refine (HXB.out _ HP2.out).2.mono ?_
          rintro e w3 ⟨rfl, rfl⟩
          dsimp only
          go_wp2
          go_roundw
          case rel => exact ⟨i + 1, rfl, rfl, by omega, by omega, HP2⟩
          case measure => simp [intOf]; omega
    · go_wp2
      go_ret
      exact ⟨rfl, HP.out⟩
end Go.Proofs.Ytebinckkghmkhaa
