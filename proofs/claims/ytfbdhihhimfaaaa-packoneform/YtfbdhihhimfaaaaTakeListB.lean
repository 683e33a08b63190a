/- What pack.TakeList answers, from its closure's contract. -/
import Derived.Test.YtfbdhihhimfaaaaTakeList
namespace Go.Proofs.Ytfbdhihhimfaaaa
open Go.RowKit

theorem tkL_err (l : List UInt8) (a : Int) {n nx e : Nat} (h : tkU l a = (n, nx, e)) (he : e ≠ 0) : tkL l a = ([], 0, e) := by simp [tkL, h, he]
theorem tkL_long (l : List UInt8) (a : Int) {n nx : Nat} (h : tkU l a = (n, nx, 0)) (hn : 4000 < n) : tkL l a = ([], 0, 11) := by simp [tkL, h, hn]
theorem tkL_yes (l : List UInt8) (a : Int) {n nx : Nat} (h : tkU l a = (n, nx, 0)) (hn : ¬ 4000 < n) : tkL l a = rdA l n [] nx := by simp [tkL, h, hn]
set_option maxHeartbeats 2000000 in
theorem counted34 (s : ByteArray) (a : Int) (B C b0 b1 : Nat) (w : World) (hs : s.size ≤ maxLen) (h0 : b0 < C) (h1 : b1 < C) (hne : b0 ≠ b1) (hB : B ≤ b1)
    (hG : Gath s b0 b1 B C w [] (.slice none 0 0) w) :
    Calls Try.prog 31 #[.string s, .int .i64 a, .int .u64 4000, .func (.func 34) #[] #[.pointer (some ⟨b0, 0, none⟩), .pointer (some ⟨b1, 0, none⟩)]] w (ListDone (tkL s.data.toList a) b1 B C w) := by
  obtain ⟨n, nx, er, hr⟩ := tup_split s.data.toList a
  have hn := tkU_lt s.data.toList a
  rw [hr] at hn
  have ht := take_any s a w hs
  rw [hr] at ht
  unfold tup at ht
  have Ht := hideIt ht
  clear ht
  have hsl : s.data.toList.length = s.size := by simp
  simp only at hn
  by_cases her : er = 0
  · have hnx := (tkU_next s.data.toList a (by rw [hr]; exact her)).2.2
    rw [hr, hsl] at hnx
    simp only at hnx
    subst her
    by_cases hlong : 4000 < n
    · have e := tkL_long _ _ hr hlong
      have He : Hid (ListDone (tkL s.data.toList a) b1 B C w (.returned (.tuple #[.int .i64 0, .int .i64 11])) w) := by
        show ListDone _ _ _ _ _ _ _; rw [e]; exact ⟨rfl, fun h => by simp at h, Below.refl _ _⟩
      have hlong' : (4000 : Int) < n := by omega
      clear e hr hG
      go_enter Try.func31, Try.ntmps31
      go_wp2_with fail
      refine Ht.out.mono ?_
      rintro e w' ⟨rfl, rfl⟩
      go_wp2
      go_ret2
      exact He.out
    · have hlong' : ¬ (4000 : Int) < n := by omega
      have e := tkL_yes _ _ hr hlong
      rw [e]
      have Hc := hideIt (clos34 s n nx b0 b1 B C w hs (by omega) hnx h0 h1 hne hB hG)
      clear e hr hG
      go_enter Try.func31, Try.ntmps31
      go_wp2_with fail
      refine Ht.out.mono ?_
      rintro e w' ⟨rfl, rfl⟩
      go_wp2_with fail
      refine Hc.out.mono ?_
      rintro e w1 ⟨rfl, hd⟩
      have Hd := hideIt hd
      clear hd
      go_wp2
      go_ret2
      exact ⟨rfl, Hd.out⟩
  · have e := tkL_err _ _ hr her
    have He : Hid (ListDone (tkL s.data.toList a) b1 B C w (.returned (.tuple #[.int .i64 0, .int .i64 (er : Int)])) w) := by
      show ListDone _ _ _ _ _ _ _; rw [e]; exact ⟨rfl, fun h => absurd h her, Below.refl _ _⟩
    have her' : ((er : Int) != 0) = true := by simp; omega
    clear e hr hG
    go_enter Try.func31, Try.ntmps31
    go_wp2_with fail
    refine Ht.out.mono ?_
    rintro e w' ⟨rfl, rfl⟩
    go_wp2
    go_ret2
    exact He.out
theorem rdA_err (l : List UInt8) (k : Nat) (acc : List (List UInt8)) (p : Nat) (h : (rdA l k acc p).2.2 ≠ 0) : (rdA l k acc p).1 = [] ∧ (rdA l k acc p).2.1 = 0 := by
  induction k generalizing acc p with
  | zero => simp [rdA] at h
  | succ k ih =>
    unfold rdA at h ⊢
    split at h
    · rename_i hh; simp [hh]
    · rename_i hh; simp only [hh]; exact ih _ _ h
theorem tkL_none (l : List UInt8) (a : Int) (h : (tkL l a).2.2 ≠ 0) : (tkL l a).1 = [] ∧ (tkL l a).2.1 = 0 := by
  unfold tkL at h ⊢
  split at h
  · rename_i hh; simp [hh]
  · rename_i hh
    simp only [hh] at h ⊢
    split at h
    · rename_i h2; simp [h2]
    · rename_i h2; simp only [h2]; exact rdA_err _ _ _ _ h
/-- What a TakeList leaves: the texts in memory of its own. -/
def Taken (r : List (List UInt8) × Nat × Nat) (w : World) (e : Ending) (w' : World) : Prop :=
  ∃ a ss cap, e = .returned (.tuple #[.slice a ss.length cap, .int .i64 (r.2.1 : Int), .int .i64 (r.2.2 : Int)]) ∧ w'.ownsRow w.heap.size 9 1 (.slice a ss.length cap) ss.length (ss.map Value.string) ∧ byt ss = r.1 ∧ sizesOk ss ∧ ss.length ≤ 4000 ∧ Below w.heap.size w w'
theorem rdA_len (l : List UInt8) (k : Nat) (acc : List (List UInt8)) (p : Nat) : (rdA l k acc p).1.length ≤ acc.length + k := by
  induction k generalizing acc p with
  | zero => simp [rdA]
  | succ k ih =>
    unfold rdA
    split
    · simp
    · have := ih (acc ++ [(tkT l (p : Int)).1]) (tkT l (p : Int)).2.1
      simp at this ⊢
      omega
theorem tkL_len (l : List UInt8) (a : Int) : (tkL l a).1.length ≤ 4000 := by
  unfold tkL
  split
  · simp
  · split
    · simp
    · have := rdA_len l (tkU l a).1 [] (tkU l a).2.1
      simp at this ⊢
      omega
theorem two_blocks (s : ByteArray) (w : World) : Gath s w.heap.size (w.heap.size + 1) w.heap.size (w.heap.size + 2) ((w.alloc (Obj.cells #[Value.string s] 9)).alloc (Obj.cells #[Value.slice none 0 0] 23)) [] (.slice none 0 0) ((w.alloc (Obj.cells #[Value.string s] 9)).alloc (Obj.cells #[Value.slice none 0 0] 23)) :=
  ⟨by rw [World.cell?_alloc_past _ _ _ (by simp), World.cell?_alloc_at _ _ _ _ rfl]; rfl, by rw [World.cell?_alloc_at _ _ _ _ (by simp)]; rfl, World.frozen?_alloc_at _ _ _ _ (by simp), World.ownsRow_nil _ _ _ _, Below.refl _ _, by simp, fun t ht => by simp at ht⟩
set_option maxHeartbeats 2000000 in
theorem takeList_any (s : ByteArray) (a : Int) (w : World) (hs : s.size ≤ maxLen) :
    Calls Try.prog 25 #[.string s, .int .i64 a] w (Taken (tkL s.data.toList a) w) := by
  have hmf : ∀ (fn : Fn) (first cap : Array Value) (w : World), (Instr.makeFunc fn first cap).run Try.prog w = .ok (.func fn first cap) w := fun _ _ _ _ => rfl
  have Hc := hideIt (counted34 s a w.heap.size (w.heap.size + 2) w.heap.size (w.heap.size + 1) _ hs (by omega) (by omega) (by omega) (by omega) (two_blocks s w))
  have Hb : Hid (Below w.heap.size w ((w.alloc (Obj.cells #[Value.string s] 9)).alloc (Obj.cells #[Value.slice none 0 0] 23))) := ((Below.refl _ _).alloc (Nat.le_refl _) _).alloc (by simp) _
  obtain ⟨ll, nx, er, hr⟩ : ∃ ll nx er, tkL s.data.toList a = (ll, nx, er) := ⟨_, _, _, rfl⟩
  have hnone := tkL_none s.data.toList a
  have hlen := tkL_len s.data.toList a
  rw [hr] at Hc hnone hlen
  rw [hr]
  simp only at hnone hlen
  clear hr
  by_cases her : er = 0
  · subst her
    clear hnone
    go_enter Try.func25, Try.ntmps25
    go_wp2_with fail
    refine Hc.out.mono ?_
    rintro e w' ⟨rfl, hd, hb⟩
    obtain ⟨v, acc, hc1, hown, hacc, hok⟩ := hd rfl
    clear hd
    have hal : acc.length ≤ 4000 := by rw [← byt_len, hacc]; exact hlen
    have He : Hid (∀ a cap, v = .slice a acc.length cap → Taken (ll, nx, 0) w (.returned (.tuple #[.slice a acc.length cap, .int .i64 (nx : Int), .int .i64 0])) w') := by
      intro a cap e
      subst e
      exact ⟨a, acc, cap, rfl, own_base hown (by omega), hacc, hok, hal, Hb.out.trans hb⟩
    obtain ⟨ao, cap, rfl⟩ : ∃ ao cap, v = .slice ao acc.length cap := by
      rcases hown.2 with ⟨hv, h0⟩ | ⟨g, cap, cur, hv, _⟩
      · exact ⟨none, 0, by rw [hv, h0]⟩
      · exact ⟨_, _, hv⟩
    clear hown hacc hlen
    go_wp2
    go_ret3
    exact He.out _ _ rfl
  · obtain ⟨e1, e2⟩ := hnone her
    subst e1 e2
    have her' : ((er : Int) != 0) = true := by simp; omega
    clear hnone hlen
    go_enter Try.func25, Try.ntmps25
    go_wp2_with fail
    refine Hc.out.mono ?_
    rintro e w' ⟨rfl, _, hb⟩
    go_wp2
    go_ret3
    exact ⟨none, [], 0, rfl, World.ownsRow_nil _ _ _ _, rfl, fun t ht => by simp at ht, by simp, Hb.out.trans hb⟩
end Go.Proofs.Ytfbdhihhimfaaaa
