/- The small calls of the book: bounds, sides, what stands ahead of what. -/
import Derived.Test.YtiinigifjdpicaaGreatDoorKit
namespace Go.Proofs.YtiinigifjdpicaaGreatDoor
open Go.RowKit
set_option linter.all false
set_option maxHeartbeats 1000000 in
theorem within_is (x lo hi : Int) (w : World) : Calls Tryz.prog 65 #[.int .i64 x, .int .i64 lo, .int .i64 hi] w fun e w' => e = .returned (.bool (wiB x lo hi)) ∧ w' = w := by
  unfold wiB
  by_cases h : lo ≤ x
  · go_enter Tryz.func65, Tryz.ntmps65
    go_wp2
    go_ret
    exact ⟨by simp [h], rfl⟩
  · go_enter Tryz.func65, Tryz.ntmps65
    go_wp2
    go_ret
    exact ⟨by rw [decide_eq_false (by omega)]; rfl, rfl⟩
set_option maxHeartbeats 1000000 in
theorem isAccount_is (x : Int) (w : World) : Calls Tryz.prog 87 #[.int .i64 x] w fun e w' => e = .returned (.bool (wiB x 1 8)) ∧ w' = w := by
  have N1 := hideIt (fun W => within_is x 1 8 W)
  go_enter Tryz.func87, Tryz.ntmps87
  go_wp2_with fail
  refine (N1.out _).mono ?_
  rintro e w1 ⟨rfl, rfl⟩
  dsimp only
  go_wp2
  go_ret
  exact ⟨rfl, rfl⟩
set_option maxHeartbeats 1000000 in
theorem isPrice_is (x : Int) (w : World) : Calls Tryz.prog 88 #[.int .i64 x] w fun e w' => e = .returned (.bool (wiB x 1 1000000)) ∧ w' = w := by
  have N1 := hideIt (fun W => within_is x 1 1000000 W)
  go_enter Tryz.func88, Tryz.ntmps88
  go_wp2_with fail
  refine (N1.out _).mono ?_
  rintro e w1 ⟨rfl, rfl⟩
  dsimp only
  go_wp2
  go_ret
  exact ⟨rfl, rfl⟩
set_option maxHeartbeats 1000000 in
theorem isSize_is (x : Int) (w : World) : Calls Tryz.prog 89 #[.int .i64 x] w fun e w' => e = .returned (.bool (wiB x 1 1000000)) ∧ w' = w := by
  have N1 := hideIt (fun W => within_is x 1 1000000 W)
  go_enter Tryz.func89, Tryz.ntmps89
  go_wp2_with fail
  refine (N1.out _).mono ?_
  rintro e w1 ⟨rfl, rfl⟩
  dsimp only
  go_wp2
  go_ret
  exact ⟨rfl, rfl⟩
def sideOff (s : Int) : Nat := if s = 1 then 2 else 3
set_option maxHeartbeats 1000000 in
theorem sideOf_is (b : Nat) (s : Int) (w : World) : Calls Tryz.prog 59 #[.pointer (some ⟨b, 0, none⟩), .int .i64 s] w fun e w' => e = .returned (.pointer (some ⟨b, sideOff s, none⟩)) ∧ w' = w := by
  unfold sideOff
  by_cases h : s = 1
  · subst h
    go_enter Tryz.func59, Tryz.ntmps59
    go_wp2
    go_ret
    exact ⟨rfl, rfl⟩
  · rw [if_neg h]
    go_enter Tryz.func59, Tryz.ntmps59
    go_wp2
    go_ret
    exact ⟨rfl, rfl⟩
set_option maxHeartbeats 1000000 in
theorem bothSides_is (w : World) : Calls Tryz.prog 58 #[] w fun e w' => e = .returned (.agg #[.int .i64 1, .int .i64 2]) ∧ Below w.heap.size w w' := by
  have HB := hideIt (below1 w (.cells #[.int .i64 1, .int .i64 2] 110))
  have H2 := hideIt (heap_alloc_new w (.cells #[.int .i64 1, .int .i64 2] 110))
  go_enter Tryz.func58, Tryz.ntmps58
  go_wp2
  exact bodyPost_ret (v := .agg #[.int .i64 1, .int .i64 2]) (by simp [results, Tryz.results58, go_sem, cell_at H2.out]) rfl ⟨rfl, HB.out⟩
set_option maxHeartbeats 1000000 in
theorem otherSide_is (s : Int) (w : World) : Calls Tryz.prog 138 #[.int .i64 s] w fun e w' => e = .returned (.int .i64 (if s = 1 then 2 else 1)) ∧ w' = w := by
  by_cases h : s = 1
  · subst h
    go_enter Tryz.func138, Tryz.ntmps138
    go_wp2
    go_ret
    exact ⟨rfl, rfl⟩
  · rw [if_neg h]
    go_enter Tryz.func138, Tryz.ntmps138
    go_wp2
    go_ret
    exact ⟨rfl, rfl⟩
/-- Does one order stand ahead of another? -/
def ahB (s : Int) (a b : OrdV) : Bool := if a.price = b.price then decide (a.id < b.id) else (decide (b.price < a.price) == decide (s = 1))
set_option maxHeartbeats 1000000 in
theorem served_is (s : Int) (w : World) : Calls Tryz.prog 92 #[.int .i64 s] w fun e w' => e = .returned (.func (.func 128) #[] #[.pointer (some ⟨w.heap.size, 0, none⟩)]) ∧ w' = w.alloc (.cells #[.int .i64 s] 3) := by
  go_enter Tryz.func92, Tryz.ntmps92
  go_wp2
  go_ret
  exact ⟨rfl, rfl⟩
set_option maxHeartbeats 2000000 in
theorem served1_is (s : Int) (B : Nat) (a b : OrdV) (w : World) (hB : B < w.heap.size) (hc : w.cell? ⟨B, 0, none⟩ = some (.int .i64 s)) : Calls Tryz.prog 128 #[.agg (ordE a).toArray, .agg (ordE b).toArray, .pointer (some ⟨B, 0, none⟩)] w fun e w' => e = .returned (.bool (ahB s a b)) ∧ Below w.heap.size w w' := by
  have HB := hideIt (below2 w (.cells (ordE a).toArray 115) (.cells (ordE b).toArray 115))
  have hne : B ≠ w.heap.size := by omega
  have hne2 : B ≠ w.heap.size + 1 := by omega
  unfold ahB ordE at *
  obtain ⟨i, ac, p, l⟩ := a
  obtain ⟨j, bc, q, k⟩ := b
  simp only at HB ⊢
  show Calls Tryz.prog 128 #[.agg #[.int .i64 i, .int .i64 ac, .int .i64 p, .int .i64 l], .agg #[.int .i64 j, .int .i64 bc, .int .i64 q, .int .i64 k], .pointer (some ⟨B, 0, none⟩)] w _
  by_cases h : p = q
  · rw [if_pos h]
    subst h
    go_enter Tryz.func128, Tryz.ntmps128
    go_wp2
    go_ret
    exact ⟨rfl, HB.out⟩
  · rw [if_neg h]
    go_enter Tryz.func128, Tryz.ntmps128
    go_wp2
    go_ret
    exact ⟨rfl, HB.out⟩
/-- Does what is owed stand ahead? -/
def owB (a b : OweV) : Bool := decide (a.acc < b.acc) || (decide (a.acc = b.acc) && decide (a.asset < b.asset))
set_option maxHeartbeats 2000000 in
theorem owedAhead_is (a b : OweV) (w : World) : Calls Tryz.prog 99 #[.agg (oweE a).toArray, .agg (oweE b).toArray] w fun e w' => e = .returned (.bool (owB a b)) ∧ Below w.heap.size w w' := by
  have HB := hideIt (below2 w (.cells (oweE a).toArray 61) (.cells (oweE b).toArray 61))
  unfold owB oweE at *
  obtain ⟨ac, s, n⟩ := a
  obtain ⟨bc, t, m⟩ := b
  simp only at HB ⊢
  show Calls Tryz.prog 99 #[.agg #[.int .i64 ac, .int .i64 s, .int .i64 n], .agg #[.int .i64 bc, .int .i64 t, .int .i64 m]] w _
  by_cases h : ac < bc
  · go_enter Tryz.func99, Tryz.ntmps99
    go_wp2
    go_ret
    exact ⟨by simp [h], HB.out⟩
  · by_cases h2 : ac = bc
    · subst h2
      go_enter Tryz.func99, Tryz.ntmps99
      go_wp2
      go_ret
      exact ⟨by simp, HB.out⟩
    · go_enter Tryz.func99, Tryz.ntmps99
      go_wp2
      go_ret
      exact ⟨by simp [h, h2], HB.out⟩
/-- What an order brings. -/
def brA (s : Int) : Int := if s = 1 then 0 else 1
def brN (s : Int) (o : OrdV) : Int := if s = 1 then o.price * o.left else o.left
set_option maxHeartbeats 2000000 in
theorem brings_is (s : Int) (o : OrdV) (w : World) (h : -9223372036854775808 ≤ o.price * o.left ∧ o.price * o.left ≤ 9223372036854775807) : Calls Tryz.prog 60 #[.int .i64 s, .agg (ordE o).toArray] w fun e w' => e = .returned (.tuple #[.int .i64 (brA s), .int .i64 (brN s o)]) ∧ Below w.heap.size w w' := by
  have HB := hideIt (below1 w (.cells (ordE o).toArray 115))
  unfold brA brN ordE at *
  obtain ⟨i, ac, p, l⟩ := o
  simp only at HB h ⊢
  show Calls Tryz.prog 60 #[.int .i64 s, .agg #[.int .i64 i, .int .i64 ac, .int .i64 p, .int .i64 l]] w _
  have hw : IntKind.i64.wrap (p * l) = p * l := by rw [IntKind.wrap_i64]; omega
  clear h
  by_cases h : s = 1
  · subst h
    go_enter Tryz.func60, Tryz.ntmps60
    go_wp2_with fail
    go_region
    go_wp2
    exact bodyPost_ret (v := .tuple #[.int .i64 0, .int .i64 (p * l)]) (by simp [results, Tryz.results60, go_sem]) rfl ⟨rfl, HB.out.drew⟩
  · rw [if_neg h, if_neg h]
    go_enter Tryz.func60, Tryz.ntmps60
    go_wp2_with fail
    go_region
    go_wp2
    exact bodyPost_ret (v := .tuple #[.int .i64 1, .int .i64 l]) (by simp [results, Tryz.results60, go_sem]) rfl ⟨rfl, HB.out.drew⟩
/-- Is an order none? -/
def strB (nx : Int) (o : OrdV) : Bool := !(wiB o.acc 1 8) || !(wiB o.price 1 1000000) || !(wiB o.left 1 1000000) || !(wiB o.id 1 (nx - 1))
set_option maxHeartbeats 4000000 in
theorem strange_is (nx : Int) (hn : 1 ≤ nx ∧ nx ≤ 1000001) (B : Nat) (o : OrdV) (w : World) (hB : B < w.heap.size) (hc : w.cell? ⟨B, 1, none⟩ = some (.int .i64 nx)) : Calls Tryz.prog 86 #[.agg (ordE o).toArray, .pointer (some ⟨B, 0, none⟩)] w fun e w' => e = .returned (.bool (strB nx o)) ∧ Below w.heap.size w w' := by
  have HB := hideIt (below1 w (.cells (ordE o).toArray 115))
  have hne : B ≠ w.heap.size := by omega
  unfold strB ordE at *
  obtain ⟨i, ac, p, l⟩ := o
  simp only at HB ⊢
  show Calls Tryz.prog 86 #[.agg #[.int .i64 i, .int .i64 ac, .int .i64 p, .int .i64 l], .pointer (some ⟨B, 0, none⟩)] w _
  have hw : IntKind.i64.wrap (nx - 1) = nx - 1 := by rw [IntKind.wrap_i64]; omega
  have N1 := hideIt (fun W => isAccount_is ac W)
  have N2 := hideIt (fun W => isPrice_is p W)
  have N3 := hideIt (fun W => isSize_is l W)
  have N4 := hideIt (fun W => within_is i 1 (nx - 1) W)
  clear hn
  cases h1 : wiB ac 1 8
  · rw [h1] at N1
    go_enter Tryz.func86, Tryz.ntmps86
    go_wp2_with fail
    refine (N1.out _).mono ?_
    rintro e w1 ⟨rfl, rfl⟩
    dsimp only
    go_wp2
    go_ret
    exact ⟨rfl, HB.out⟩
  · rw [h1] at N1
    cases h2 : wiB p 1 1000000
    · rw [h2] at N2
      go_enter Tryz.func86, Tryz.ntmps86
      go_wp2_with fail
      refine (N1.out _).mono ?_
      rintro e w1 ⟨rfl, rfl⟩
      dsimp only
      go_wp2_with fail
      refine (N2.out _).mono ?_
      rintro e w1 ⟨rfl, rfl⟩
      dsimp only
      go_wp2
      go_ret
      exact ⟨rfl, HB.out⟩
    · rw [h2] at N2
      cases h3 : wiB l 1 1000000
      · rw [h3] at N3
        go_enter Tryz.func86, Tryz.ntmps86
        go_wp2_with fail
        refine (N1.out _).mono ?_
        rintro e w1 ⟨rfl, rfl⟩
        dsimp only
        go_wp2_with fail
        refine (N2.out _).mono ?_
        rintro e w1 ⟨rfl, rfl⟩
        dsimp only
        go_wp2_with fail
        refine (N3.out _).mono ?_
        rintro e w1 ⟨rfl, rfl⟩
        dsimp only
        go_wp2
        go_ret
        exact ⟨rfl, HB.out⟩
      · rw [h3] at N3
        go_enter Tryz.func86, Tryz.ntmps86
        go_wp2_with fail
        refine (N1.out _).mono ?_
        rintro e w1 ⟨rfl, rfl⟩
        dsimp only
        go_wp2_with fail
        refine (N2.out _).mono ?_
        rintro e w1 ⟨rfl, rfl⟩
        dsimp only
        go_wp2_with fail
        refine (N3.out _).mono ?_
        rintro e w1 ⟨rfl, rfl⟩
        dsimp only
        go_wp2_with fail
        refine (N4.out _).mono ?_
        rintro e w1 ⟨rfl, rfl⟩
        dsimp only
        go_wp2
        go_ret
        exact ⟨by simp, HB.out⟩
/-- Is what is owed none? -/
def stoB (o : OweV) : Bool := !(wiB o.acc 1 8) || !(wiB o.asset 0 1) || !(wiB o.n 1 9007199254740992)
set_option maxHeartbeats 4000000 in
theorem strangeO_is (o : OweV) (w : World) : Calls Tryz.prog 96 #[.agg (oweE o).toArray] w fun e w' => e = .returned (.bool (stoB o)) ∧ Below w.heap.size w w' := by
  have HB := hideIt (below1 w (.cells (oweE o).toArray 61))
  unfold stoB oweE at *
  obtain ⟨ac, s, n⟩ := o
  simp only at HB ⊢
  show Calls Tryz.prog 96 #[.agg #[.int .i64 ac, .int .i64 s, .int .i64 n]] w _
  have N1 := hideIt (fun W => isAccount_is ac W)
  have N2 := hideIt (fun W => within_is s 0 1 W)
  have N3 := hideIt (fun W => within_is n 1 9007199254740992 W)
  cases h1 : wiB ac 1 8
  · rw [h1] at N1
    go_enter Tryz.func96, Tryz.ntmps96
    go_wp2_with fail
    refine (N1.out _).mono ?_
    rintro e w1 ⟨rfl, rfl⟩
    dsimp only
    go_wp2
    go_ret
    exact ⟨rfl, HB.out⟩
  · rw [h1] at N1
    cases h2 : wiB s 0 1
    · rw [h2] at N2
      go_enter Tryz.func96, Tryz.ntmps96
      go_wp2_with fail
      refine (N1.out _).mono ?_
      rintro e w1 ⟨rfl, rfl⟩
      dsimp only
      go_wp2_with fail
      refine (N2.out _).mono ?_
      rintro e w1 ⟨rfl, rfl⟩
      dsimp only
      go_wp2
      go_ret
      exact ⟨rfl, HB.out⟩
    · rw [h2] at N2
      go_enter Tryz.func96, Tryz.ntmps96
      go_wp2_with fail
      refine (N1.out _).mono ?_
      rintro e w1 ⟨rfl, rfl⟩
      dsimp only
      go_wp2_with fail
      refine (N2.out _).mono ?_
      rintro e w1 ⟨rfl, rfl⟩
      dsimp only
      go_wp2_with fail
      refine (N3.out _).mono ?_
      rintro e w1 ⟨rfl, rfl⟩
      dsimp only
      go_wp2
      go_ret
      exact ⟨by simp, HB.out⟩
set_option maxHeartbeats 1000000 in
theorem less_is (a b : Int) (w : World) : Calls Tryz.prog 95 #[.int .i64 a, .int .i64 b] w fun e w' => e = .returned (.bool (decide (a < b))) ∧ w' = w := by
  go_enter Tryz.func95, Tryz.ntmps95
  go_wp2
  go_ret
  exact ⟨rfl, rfl⟩
/-- May an order of a side and a price trade at another price? -/
def meetB (s p q : Int) : Bool := if s = 1 then decide (q ≤ p) else decide (p ≤ q)
set_option maxHeartbeats 1000000 in
theorem meeting_is (s p : Int) (w : World) : Calls Tryz.prog 139 #[.int .i64 s, .int .i64 p] w fun e w' => e = .returned (.func (.func (if s = 1 then 170 else 171)) #[] #[.pointer (some ⟨w.heap.size, 0, none⟩)]) ∧ w' = w.alloc (.cells #[.int .i64 p] 3) := by
  by_cases h : s = 1
  · subst h
    go_enter Tryz.func139, Tryz.ntmps139
    go_wp2
    go_ret
    exact ⟨rfl, rfl⟩
  · rw [if_neg h]
    go_enter Tryz.func139, Tryz.ntmps139
    go_wp2
    go_ret
    exact ⟨rfl, rfl⟩
set_option maxHeartbeats 1000000 in
theorem meets_is (s p q : Int) (B : Nat) (w : World) (hc : w.cell? ⟨B, 0, none⟩ = some (.int .i64 p)) : Calls Tryz.prog (if s = 1 then 170 else 171) #[.int .i64 q, .pointer (some ⟨B, 0, none⟩)] w fun e w' => e = .returned (.bool (meetB s p q)) ∧ w' = w := by
  unfold meetB
  by_cases h : s = 1
  · rw [if_pos h, if_pos h]
    go_enter Tryz.func170, Tryz.ntmps170
    go_wp2
    go_ret
    exact ⟨rfl, rfl⟩
  · rw [if_neg h, if_neg h]
    go_enter Tryz.func171, Tryz.ntmps171
    go_wp2
    go_ret
    exact ⟨rfl, rfl⟩
end Go.Proofs.YtiinigifjdpicaaGreatDoor
